/- MortonCovers: for every label and key the call returns true: a label covers a key just if the key's point is in the label's box, which is that of its children together. No condition. -/
import Derived.Test.YtdhcilnkimmblaaMorHalf
import Derived.Test.YtdhcilnkimmblaaMorOpen
import Derived.Test.YtdhcilnkimmblaaOwn
namespace Go.Proofs.Ytdhcilnkimmblaa.MorCoversLaw
open Go.ChangeShapes Go.WideShapes Go.ChangeAt Go.RowKit Go.Sort
set_option linter.unusedVariables false

set_option maxRecDepth 100000 in
set_option maxHeartbeats 4000000 in
theorem bad (n : Int) (s z : Nat) (w : World)
    (h1 : Gives Try.prog 20 #[.agg (labc n s)] (.tuple #[.agg (rectc 0 0 0 0), .int .i64 1]))
    (h2 : Gives Try.prog 26 #[.agg (labc n s)] (.bool false))
    (h3 : Gives Try.prog 22 #[.agg #[.int .u32 0, .int .u32 4294967295, .int .u32 0, .int .u32 4294967295], .agg (labc n s)] (.bool false)) : Calls Try.prog 6 #[.agg (labc n s), .int .u64 (z : Int)] w fun e w' => e = .returned (.bool true) ∧ Below w.heap.size w w' := by
  go_enter Try.func6, Try.ntmps6
  go_upto_region 1 with (fail)
  have L0 := Blk.new w (labc n s) 36
  have B0 := ((Below.refl w.heap.size w).alloc (Nat.le_refl _) (.cells (labc n s) 36))
  generalize World.alloc _ _ = W0 at *
  go_upto_region 2 with (first | (refine p_loadL rfl _ rfl _ rfl _ _ (by first | with_reducible exact L0) ?_) | (go_at_call 20; (with_reducible refine (h1.calls _).mono ?_); rintro e w1 ⟨rfl, hb⟩) | (refine wpList_store_newrow rfl 25 _ _ rfl (rectc 0 0 0 0) rfl rfl infoRect (rect_all _ _ _ _) rfl ?_))
  replace L0 := (L0.below hb L0.lt).alloc (.cells (rectc 0 0 0 0) 25)
  replace B0 := (B0.trans (hb.mono B0.size)).alloc (Nat.le_trans B0.size hb.size) (.cells (rectc 0 0 0 0) 25)
  have A1 := Blk.new w1 (rectc 0 0 0 0) 25
  clear hb
  generalize w1.heap.size = g1 at *
  generalize w1.alloc _ = W1 at *
  go_wp2_with (first | (go_at_call 13; (with_reducible refine (woven_all.calls _).mono ?_); rintro e w2 ⟨rfl, hb⟩; replace L0 := L0.below hb L0.lt; replace A1 := A1.below hb A1.lt; replace B0 := B0.trans (hb.mono B0.size); clear hb) | (go_at_call 26; (with_reducible refine (h2.calls _).mono ?_); rintro e w3 ⟨rfl, hb⟩; replace L0 := L0.below hb L0.lt; replace A1 := A1.below hb A1.lt; replace B0 := B0.trans (hb.mono B0.size); clear hb) | (go_at_call 22; (with_reducible refine (h3.calls _).mono ?_); rintro e w4 ⟨rfl, hb⟩; replace L0 := L0.below hb L0.lt; replace A1 := A1.below hb A1.lt; replace B0 := B0.trans (hb.mono B0.size); clear hb) | (go_guarded; refine o_loadL _ rfl _ rfl _ _ (by first | with_reducible exact L0) ?_; simp only [Act.put, List.setIfInBounds_toArray, List.set_cons_succ, List.set_cons_zero]) | (go_guarded; refine o_loadR _ rfl _ rfl _ _ _ _ (by first | with_reducible exact A1) ?_; simp only [Act.put, List.setIfInBounds_toArray, List.set_cons_succ, List.set_cons_zero]))
  go_ret
  exact ⟨rfl, B0⟩

set_option maxRecDepth 100000 in
set_option maxHeartbeats 4000000 in
theorem point (n : Int) (s z p r : Nat) (i : Bool) (w : World)
    (h1 : Gives Try.prog 20 #[.agg (labc n s)] (.tuple #[.agg (rectc p p r r), .int .i64 0]))
    (h2 : Gives Try.prog 18 #[.agg (rectc p p r r), .int .u64 (z : Int)] (.bool i))
    (h3 : Gives Try.prog 27 #[.agg (labc n s), .int .u64 (z : Int)] (.bool i))
    (h4 : Gives Try.prog 16 #[.agg (rectc p p r r)] (.bool true))
    (h5 : Gives Try.prog 24 #[.agg (rectc p p r r), .agg (labc n s)] (.bool true))
    (h6 : Gives Try.prog 28 #[.agg (labc n s), .int .i64 0] (.tuple #[.agg (labc 0 0), .int .i64 5]))
    (h7 : Gives Try.prog 28 #[.agg (labc n s), .int .i64 1] (.tuple #[.agg (labc 0 0), .int .i64 5])) : Calls Try.prog 6 #[.agg (labc n s), .int .u64 (z : Int)] w fun e w' => e = .returned (.bool true) ∧ Below w.heap.size w w' := by
  cases i
  all_goals
    go_enter Try.func6, Try.ntmps6
    go_upto_region 1 with (fail)
    have L0 := Blk.new w (labc n s) 36
    have B0 := ((Below.refl w.heap.size w).alloc (Nat.le_refl _) (.cells (labc n s) 36))
    generalize World.alloc _ _ = W0 at *
    go_upto_region 2 with (first | (refine p_loadL rfl _ rfl _ rfl _ _ (by first | with_reducible exact L0) ?_) | (go_at_call 20; (with_reducible refine (h1.calls _).mono ?_); rintro e w1 ⟨rfl, hb⟩) | (refine wpList_store_newrow rfl 25 _ _ rfl (rectc p p r r) rfl rfl infoRect (rect_all _ _ _ _) rfl ?_))
    replace L0 := (L0.below hb L0.lt).alloc (.cells (rectc p p r r) 25)
    replace B0 := (B0.trans (hb.mono B0.size)).alloc (Nat.le_trans B0.size hb.size) (.cells (rectc p p r r) 25)
    have A1 := Blk.new w1 (rectc p p r r) 25
    clear hb
    generalize w1.heap.size = g1 at *
    generalize w1.alloc _ = W1 at *
    go_upto_region 4 with (fail)
    refine wp_region_quiet_below (by kernel_rfl) (by kernel_rfl) ?_
    repeat (first
      | go_big_quiet_skip
      | (go_big_quiet_want
         first
         | (first | refine q_loadL _ rfl _ rfl _ _ (by first | with_reducible exact L0) ?_ | refine q_loadR _ rfl _ rfl _ _ _ _ (by first | with_reducible exact A1) ?_
            simp only [Act.put, List.setIfInBounds_toArray, List.set_cons_succ, List.set_cons_zero]
            go_big_quiet_on)
         | (go_big_quiet_op
            first | go_big_quiet_on | go_big_quiet_call (first | with_reducible exact h2.grown _ _ | with_reducible exact h3.grown _ _ | with_reducible exact h4.grown _ _ | with_reducible exact h5.grown _ _))))
    refine wpQuiet_nil ?_
    intro _ hw'
    obtain ⟨⟨dq, osq⟩, hw''⟩ := hw'
    subst hw''
    replace B0 := B0.trans ((below_regrown _ dq osq).mono B0.size)
    replace L0 := L0.below (below_regrown _ dq osq) L0.lt
    replace A1 := A1.below (below_regrown _ dq osq) A1.lt
    generalize grow _ _ = Wq at *
    go_upto_region 7 with (first | (refine p_loadL rfl _ rfl _ rfl _ _ (by first | with_reducible exact L0) ?_) | (refine p_loadR rfl _ rfl _ rfl _ _ _ _ (by first | with_reducible exact A1) ?_) | (go_at_call 28; (with_reducible refine (h6.calls _).mono ?_); rintro e w2 ⟨rfl, hb⟩) | (refine wpList_store_newrow rfl 36 _ _ rfl (labc 0 0) rfl rfl infoLab (lab_all _ _) rfl ?_))
    replace L0 := (L0.below hb L0.lt).alloc (.cells (labc 0 0) 36)
    replace A1 := (A1.below hb A1.lt).alloc (.cells (labc 0 0) 36)
    replace B0 := (B0.trans (hb.mono B0.size)).alloc (Nat.le_trans B0.size hb.size) (.cells (labc 0 0) 36)
    have A2 := Blk.new w2 (labc 0 0) 36
    clear hb
    generalize w2.heap.size = g2 at *
    generalize w2.alloc _ = W2 at *
    go_upto_region 8 with (first | (refine p_loadL rfl _ rfl _ rfl _ _ (by first | with_reducible exact L0 | with_reducible exact A2) ?_) | (refine p_loadR rfl _ rfl _ rfl _ _ _ _ (by first | with_reducible exact A1) ?_) | (go_at_call 28; (with_reducible refine (h7.calls _).mono ?_); rintro e w3 ⟨rfl, hb⟩) | (refine wpList_store_newrow rfl 36 _ _ rfl (labc 0 0) rfl rfl infoLab (lab_all _ _) rfl ?_))
    replace L0 := (L0.below hb L0.lt).alloc (.cells (labc 0 0) 36)
    replace A1 := (A1.below hb A1.lt).alloc (.cells (labc 0 0) 36)
    replace A2 := (A2.below hb A2.lt).alloc (.cells (labc 0 0) 36)
    replace B0 := (B0.trans (hb.mono B0.size)).alloc (Nat.le_trans B0.size hb.size) (.cells (labc 0 0) 36)
    have A3 := Blk.new w3 (labc 0 0) 36
    clear hb
    generalize w3.heap.size = g3 at *
    generalize w3.alloc _ = W3 at *
    have c0 := rect0 A1
    have c1 := rect1 A1
    have c2 := rect2 A1
    have c3 := rect3 A1
    go_wp2_with (first | (go_at_call 13; (with_reducible refine (woven_all.calls _).mono ?_); rintro e w4 ⟨rfl, hb⟩; replace L0 := L0.below hb L0.lt; replace A1 := A1.below hb A1.lt; replace A2 := A2.below hb A2.lt; replace A3 := A3.below hb A3.lt; replace B0 := B0.trans (hb.mono B0.size); clear hb; replace c0 := rect0 A1; replace c1 := rect1 A1; replace c2 := rect2 A1; replace c3 := rect3 A1) | (go_guarded; refine o_loadL _ rfl _ rfl _ _ (by first | with_reducible exact L0 | with_reducible exact A2 | with_reducible exact A3) ?_; simp only [Act.put, List.setIfInBounds_toArray, List.set_cons_succ, List.set_cons_zero]) | (go_guarded; refine o_loadR _ rfl _ rfl _ _ _ _ (by first | with_reducible exact A1) ?_; simp only [Act.put, List.setIfInBounds_toArray, List.set_cons_succ, List.set_cons_zero]))
    go_ret
    exact ⟨rfl, B0⟩

set_option maxRecDepth 100000 in
set_option maxHeartbeats 4000000 in
theorem wide (n : Int) (s u z p q r t m m' : Nat) (i : Bool) (w : World)
    (h1 : Gives Try.prog 20 #[.agg (labc n s)] (.tuple #[.agg (rectc p q r t), .int .i64 0]))
    (h2 : Gives Try.prog 18 #[.agg (rectc p q r t), .int .u64 (z : Int)] (.bool i))
    (h3 : Gives Try.prog 27 #[.agg (labc n s), .int .u64 (z : Int)] (.bool i))
    (h4 : Gives Try.prog 16 #[.agg (rectc p q r t)] (.bool true))
    (h5 : Gives Try.prog 24 #[.agg (rectc p q r t), .agg (labc n s)] (.bool true))
    (h6 : Gives Try.prog 28 #[.agg (labc n s), .int .i64 0] (.tuple #[.agg (labc (n + 1) s), .int .i64 0]))
    (h7 : Gives Try.prog 28 #[.agg (labc n s), .int .i64 1] (.tuple #[.agg (labc (n + 1) u), .int .i64 0]))
    (h8 : Gives Try.prog 20 #[.agg (labc (n + 1) s)] (.tuple #[.agg (rectc p m r t), .int .i64 0]))
    (h9 : Gives Try.prog 20 #[.agg (labc (n + 1) u)] (.tuple #[.agg (rectc m' q r t), .int .i64 0]))
    (g1 : (((m : Int) + 1) % 4294967296 == (m' : Int)) = true) (g2 : ((m : Int) == (q : Int)) = false) : Calls Try.prog 6 #[.agg (labc n s), .int .u64 (z : Int)] w fun e w' => e = .returned (.bool true) ∧ Below w.heap.size w w' := by
  cases i
  all_goals
    go_enter Try.func6, Try.ntmps6
    go_upto_region 1 with (fail)
    have L0 := Blk.new w (labc n s) 36
    have B0 := ((Below.refl w.heap.size w).alloc (Nat.le_refl _) (.cells (labc n s) 36))
    generalize World.alloc _ _ = W0 at *
    go_upto_region 2 with (first | (refine p_loadL rfl _ rfl _ rfl _ _ (by first | with_reducible exact L0) ?_) | (go_at_call 20; (with_reducible refine (h1.calls _).mono ?_); rintro e w1 ⟨rfl, hb⟩) | (refine wpList_store_newrow rfl 25 _ _ rfl (rectc p q r t) rfl rfl infoRect (rect_all _ _ _ _) rfl ?_))
    replace L0 := (L0.below hb L0.lt).alloc (.cells (rectc p q r t) 25)
    replace B0 := (B0.trans (hb.mono B0.size)).alloc (Nat.le_trans B0.size hb.size) (.cells (rectc p q r t) 25)
    have A1 := Blk.new w1 (rectc p q r t) 25
    clear hb
    generalize w1.heap.size = g1 at *
    generalize w1.alloc _ = W1 at *
    go_upto_region 4 with (fail)
    refine wp_region_quiet_below (by kernel_rfl) (by kernel_rfl) ?_
    repeat (first
      | go_big_quiet_skip
      | (go_big_quiet_want
         first
         | (first | refine q_loadL _ rfl _ rfl _ _ (by first | with_reducible exact L0) ?_ | refine q_loadR _ rfl _ rfl _ _ _ _ (by first | with_reducible exact A1) ?_
            simp only [Act.put, List.setIfInBounds_toArray, List.set_cons_succ, List.set_cons_zero]
            go_big_quiet_on)
         | (go_big_quiet_op
            first | go_big_quiet_on | go_big_quiet_call (first | with_reducible exact h2.grown _ _ | with_reducible exact h3.grown _ _ | with_reducible exact h4.grown _ _ | with_reducible exact h5.grown _ _))))
    refine wpQuiet_nil ?_
    intro _ hw'
    obtain ⟨⟨dq, osq⟩, hw''⟩ := hw'
    subst hw''
    replace B0 := B0.trans ((below_regrown _ dq osq).mono B0.size)
    replace L0 := L0.below (below_regrown _ dq osq) L0.lt
    replace A1 := A1.below (below_regrown _ dq osq) A1.lt
    generalize grow _ _ = Wq at *
    go_upto_region 7 with (first | (refine p_loadL rfl _ rfl _ rfl _ _ (by first | with_reducible exact L0) ?_) | (refine p_loadR rfl _ rfl _ rfl _ _ _ _ (by first | with_reducible exact A1) ?_) | (go_at_call 28; (with_reducible refine (h6.calls _).mono ?_); rintro e w2 ⟨rfl, hb⟩) | (refine wpList_store_newrow rfl 36 _ _ rfl (labc (n + 1) s) rfl rfl infoLab (lab_all _ _) rfl ?_))
    replace L0 := (L0.below hb L0.lt).alloc (.cells (labc (n + 1) s) 36)
    replace A1 := (A1.below hb A1.lt).alloc (.cells (labc (n + 1) s) 36)
    replace B0 := (B0.trans (hb.mono B0.size)).alloc (Nat.le_trans B0.size hb.size) (.cells (labc (n + 1) s) 36)
    have A2 := Blk.new w2 (labc (n + 1) s) 36
    clear hb
    generalize w2.heap.size = g2 at *
    generalize w2.alloc _ = W2 at *
    go_upto_region 8 with (first | (refine p_loadL rfl _ rfl _ rfl _ _ (by first | with_reducible exact L0 | with_reducible exact A2) ?_) | (refine p_loadR rfl _ rfl _ rfl _ _ _ _ (by first | with_reducible exact A1) ?_) | (go_at_call 28; (with_reducible refine (h7.calls _).mono ?_); rintro e w3 ⟨rfl, hb⟩) | (refine wpList_store_newrow rfl 36 _ _ rfl (labc (n + 1) u) rfl rfl infoLab (lab_all _ _) rfl ?_))
    replace L0 := (L0.below hb L0.lt).alloc (.cells (labc (n + 1) u) 36)
    replace A1 := (A1.below hb A1.lt).alloc (.cells (labc (n + 1) u) 36)
    replace A2 := (A2.below hb A2.lt).alloc (.cells (labc (n + 1) u) 36)
    replace B0 := (B0.trans (hb.mono B0.size)).alloc (Nat.le_trans B0.size hb.size) (.cells (labc (n + 1) u) 36)
    have A3 := Blk.new w3 (labc (n + 1) u) 36
    clear hb
    generalize w3.heap.size = g3 at *
    generalize w3.alloc _ = W3 at *
    go_upto_region 11 with (first | (refine p_loadL rfl _ rfl _ rfl _ _ (by first | with_reducible exact L0 | with_reducible exact A2 | with_reducible exact A3) ?_) | (refine p_loadR rfl _ rfl _ rfl _ _ _ _ (by first | with_reducible exact A1) ?_) | (go_at_call 20; (with_reducible refine (h8.calls _).mono ?_); rintro e w4 ⟨rfl, hb⟩) | (refine wpList_store_newrow rfl 25 _ _ rfl (rectc p m r t) rfl rfl infoRect (rect_all _ _ _ _) rfl ?_))
    replace L0 := (L0.below hb L0.lt).alloc (.cells (rectc p m r t) 25)
    replace A1 := (A1.below hb A1.lt).alloc (.cells (rectc p m r t) 25)
    replace A2 := (A2.below hb A2.lt).alloc (.cells (rectc p m r t) 25)
    replace A3 := (A3.below hb A3.lt).alloc (.cells (rectc p m r t) 25)
    replace B0 := (B0.trans (hb.mono B0.size)).alloc (Nat.le_trans B0.size hb.size) (.cells (rectc p m r t) 25)
    have A4 := Blk.new w4 (rectc p m r t) 25
    clear hb
    generalize w4.heap.size = g4 at *
    generalize w4.alloc _ = W4 at *
    go_upto_region 12 with (first | (refine p_loadL rfl _ rfl _ rfl _ _ (by first | with_reducible exact L0 | with_reducible exact A2 | with_reducible exact A3) ?_) | (refine p_loadR rfl _ rfl _ rfl _ _ _ _ (by first | with_reducible exact A1 | with_reducible exact A4) ?_) | (go_at_call 20; (with_reducible refine (h9.calls _).mono ?_); rintro e w5 ⟨rfl, hb⟩) | (refine wpList_store_newrow rfl 25 _ _ rfl (rectc m' q r t) rfl rfl infoRect (rect_all _ _ _ _) rfl ?_))
    replace L0 := (L0.below hb L0.lt).alloc (.cells (rectc m' q r t) 25)
    replace A1 := (A1.below hb A1.lt).alloc (.cells (rectc m' q r t) 25)
    replace A2 := (A2.below hb A2.lt).alloc (.cells (rectc m' q r t) 25)
    replace A3 := (A3.below hb A3.lt).alloc (.cells (rectc m' q r t) 25)
    replace A4 := (A4.below hb A4.lt).alloc (.cells (rectc m' q r t) 25)
    replace B0 := (B0.trans (hb.mono B0.size)).alloc (Nat.le_trans B0.size hb.size) (.cells (rectc m' q r t) 25)
    have A5 := Blk.new w5 (rectc m' q r t) 25
    clear hb
    generalize w5.heap.size = g5 at *
    generalize w5.alloc _ = W5 at *
    have c00 := rect0 A1
    have c01 := rect1 A1
    have c02 := rect2 A1
    have c03 := rect3 A1
    have c10 := rect0 A4
    have c11 := rect1 A4
    have c12 := rect2 A4
    have c13 := rect3 A4
    have c20 := rect0 A5
    have c21 := rect1 A5
    have c22 := rect2 A5
    have c23 := rect3 A5
    clear L0 A1 A2 A3 A4 A5
    go_upto_region 14 with (fail)
    clear c00 c01 c02 c03 c10 c11 c12 c13 c20 c21 c22 c23
    go_wp2_with (first | (go_at_call 13; (with_reducible refine (woven_all.calls _).mono ?_); rintro e w6 ⟨rfl, hb⟩; replace B0 := B0.trans (hb.mono B0.size); clear hb))
    go_ret
    exact ⟨rfl, B0⟩

set_option maxRecDepth 100000 in
set_option maxHeartbeats 4000000 in
theorem high (n : Int) (s u z p q r t m m' : Nat) (i : Bool) (w : World)
    (h1 : Gives Try.prog 20 #[.agg (labc n s)] (.tuple #[.agg (rectc p q r t), .int .i64 0]))
    (h2 : Gives Try.prog 18 #[.agg (rectc p q r t), .int .u64 (z : Int)] (.bool i))
    (h3 : Gives Try.prog 27 #[.agg (labc n s), .int .u64 (z : Int)] (.bool i))
    (h4 : Gives Try.prog 16 #[.agg (rectc p q r t)] (.bool true))
    (h5 : Gives Try.prog 24 #[.agg (rectc p q r t), .agg (labc n s)] (.bool true))
    (h6 : Gives Try.prog 28 #[.agg (labc n s), .int .i64 0] (.tuple #[.agg (labc (n + 1) s), .int .i64 0]))
    (h7 : Gives Try.prog 28 #[.agg (labc n s), .int .i64 1] (.tuple #[.agg (labc (n + 1) u), .int .i64 0]))
    (h8 : Gives Try.prog 20 #[.agg (labc (n + 1) s)] (.tuple #[.agg (rectc p q r m), .int .i64 0]))
    (h9 : Gives Try.prog 20 #[.agg (labc (n + 1) u)] (.tuple #[.agg (rectc p q m' t), .int .i64 0]))
    (g1 : (((m : Int) + 1) % 4294967296 == (m' : Int)) = true) (g2 : ((m : Int) == (t : Int)) = false) : Calls Try.prog 6 #[.agg (labc n s), .int .u64 (z : Int)] w fun e w' => e = .returned (.bool true) ∧ Below w.heap.size w w' := by
  cases i
  all_goals
    go_enter Try.func6, Try.ntmps6
    go_upto_region 1 with (fail)
    have L0 := Blk.new w (labc n s) 36
    have B0 := ((Below.refl w.heap.size w).alloc (Nat.le_refl _) (.cells (labc n s) 36))
    generalize World.alloc _ _ = W0 at *
    go_upto_region 2 with (first | (refine p_loadL rfl _ rfl _ rfl _ _ (by first | with_reducible exact L0) ?_) | (go_at_call 20; (with_reducible refine (h1.calls _).mono ?_); rintro e w1 ⟨rfl, hb⟩) | (refine wpList_store_newrow rfl 25 _ _ rfl (rectc p q r t) rfl rfl infoRect (rect_all _ _ _ _) rfl ?_))
    replace L0 := (L0.below hb L0.lt).alloc (.cells (rectc p q r t) 25)
    replace B0 := (B0.trans (hb.mono B0.size)).alloc (Nat.le_trans B0.size hb.size) (.cells (rectc p q r t) 25)
    have A1 := Blk.new w1 (rectc p q r t) 25
    clear hb
    generalize w1.heap.size = g1 at *
    generalize w1.alloc _ = W1 at *
    go_upto_region 4 with (fail)
    refine wp_region_quiet_below (by kernel_rfl) (by kernel_rfl) ?_
    repeat (first
      | go_big_quiet_skip
      | (go_big_quiet_want
         first
         | (first | refine q_loadL _ rfl _ rfl _ _ (by first | with_reducible exact L0) ?_ | refine q_loadR _ rfl _ rfl _ _ _ _ (by first | with_reducible exact A1) ?_
            simp only [Act.put, List.setIfInBounds_toArray, List.set_cons_succ, List.set_cons_zero]
            go_big_quiet_on)
         | (go_big_quiet_op
            first | go_big_quiet_on | go_big_quiet_call (first | with_reducible exact h2.grown _ _ | with_reducible exact h3.grown _ _ | with_reducible exact h4.grown _ _ | with_reducible exact h5.grown _ _))))
    refine wpQuiet_nil ?_
    intro _ hw'
    obtain ⟨⟨dq, osq⟩, hw''⟩ := hw'
    subst hw''
    replace B0 := B0.trans ((below_regrown _ dq osq).mono B0.size)
    replace L0 := L0.below (below_regrown _ dq osq) L0.lt
    replace A1 := A1.below (below_regrown _ dq osq) A1.lt
    generalize grow _ _ = Wq at *
    go_upto_region 7 with (first | (refine p_loadL rfl _ rfl _ rfl _ _ (by first | with_reducible exact L0) ?_) | (refine p_loadR rfl _ rfl _ rfl _ _ _ _ (by first | with_reducible exact A1) ?_) | (go_at_call 28; (with_reducible refine (h6.calls _).mono ?_); rintro e w2 ⟨rfl, hb⟩) | (refine wpList_store_newrow rfl 36 _ _ rfl (labc (n + 1) s) rfl rfl infoLab (lab_all _ _) rfl ?_))
    replace L0 := (L0.below hb L0.lt).alloc (.cells (labc (n + 1) s) 36)
    replace A1 := (A1.below hb A1.lt).alloc (.cells (labc (n + 1) s) 36)
    replace B0 := (B0.trans (hb.mono B0.size)).alloc (Nat.le_trans B0.size hb.size) (.cells (labc (n + 1) s) 36)
    have A2 := Blk.new w2 (labc (n + 1) s) 36
    clear hb
    generalize w2.heap.size = g2 at *
    generalize w2.alloc _ = W2 at *
    go_upto_region 8 with (first | (refine p_loadL rfl _ rfl _ rfl _ _ (by first | with_reducible exact L0 | with_reducible exact A2) ?_) | (refine p_loadR rfl _ rfl _ rfl _ _ _ _ (by first | with_reducible exact A1) ?_) | (go_at_call 28; (with_reducible refine (h7.calls _).mono ?_); rintro e w3 ⟨rfl, hb⟩) | (refine wpList_store_newrow rfl 36 _ _ rfl (labc (n + 1) u) rfl rfl infoLab (lab_all _ _) rfl ?_))
    replace L0 := (L0.below hb L0.lt).alloc (.cells (labc (n + 1) u) 36)
    replace A1 := (A1.below hb A1.lt).alloc (.cells (labc (n + 1) u) 36)
    replace A2 := (A2.below hb A2.lt).alloc (.cells (labc (n + 1) u) 36)
    replace B0 := (B0.trans (hb.mono B0.size)).alloc (Nat.le_trans B0.size hb.size) (.cells (labc (n + 1) u) 36)
    have A3 := Blk.new w3 (labc (n + 1) u) 36
    clear hb
    generalize w3.heap.size = g3 at *
    generalize w3.alloc _ = W3 at *
    go_upto_region 11 with (first | (refine p_loadL rfl _ rfl _ rfl _ _ (by first | with_reducible exact L0 | with_reducible exact A2 | with_reducible exact A3) ?_) | (refine p_loadR rfl _ rfl _ rfl _ _ _ _ (by first | with_reducible exact A1) ?_) | (go_at_call 20; (with_reducible refine (h8.calls _).mono ?_); rintro e w4 ⟨rfl, hb⟩) | (refine wpList_store_newrow rfl 25 _ _ rfl (rectc p q r m) rfl rfl infoRect (rect_all _ _ _ _) rfl ?_))
    replace L0 := (L0.below hb L0.lt).alloc (.cells (rectc p q r m) 25)
    replace A1 := (A1.below hb A1.lt).alloc (.cells (rectc p q r m) 25)
    replace A2 := (A2.below hb A2.lt).alloc (.cells (rectc p q r m) 25)
    replace A3 := (A3.below hb A3.lt).alloc (.cells (rectc p q r m) 25)
    replace B0 := (B0.trans (hb.mono B0.size)).alloc (Nat.le_trans B0.size hb.size) (.cells (rectc p q r m) 25)
    have A4 := Blk.new w4 (rectc p q r m) 25
    clear hb
    generalize w4.heap.size = g4 at *
    generalize w4.alloc _ = W4 at *
    go_upto_region 12 with (first | (refine p_loadL rfl _ rfl _ rfl _ _ (by first | with_reducible exact L0 | with_reducible exact A2 | with_reducible exact A3) ?_) | (refine p_loadR rfl _ rfl _ rfl _ _ _ _ (by first | with_reducible exact A1 | with_reducible exact A4) ?_) | (go_at_call 20; (with_reducible refine (h9.calls _).mono ?_); rintro e w5 ⟨rfl, hb⟩) | (refine wpList_store_newrow rfl 25 _ _ rfl (rectc p q m' t) rfl rfl infoRect (rect_all _ _ _ _) rfl ?_))
    replace L0 := (L0.below hb L0.lt).alloc (.cells (rectc p q m' t) 25)
    replace A1 := (A1.below hb A1.lt).alloc (.cells (rectc p q m' t) 25)
    replace A2 := (A2.below hb A2.lt).alloc (.cells (rectc p q m' t) 25)
    replace A3 := (A3.below hb A3.lt).alloc (.cells (rectc p q m' t) 25)
    replace A4 := (A4.below hb A4.lt).alloc (.cells (rectc p q m' t) 25)
    replace B0 := (B0.trans (hb.mono B0.size)).alloc (Nat.le_trans B0.size hb.size) (.cells (rectc p q m' t) 25)
    have A5 := Blk.new w5 (rectc p q m' t) 25
    clear hb
    generalize w5.heap.size = g5 at *
    generalize w5.alloc _ = W5 at *
    have c00 := rect0 A1
    have c01 := rect1 A1
    have c02 := rect2 A1
    have c03 := rect3 A1
    have c10 := rect0 A4
    have c11 := rect1 A4
    have c12 := rect2 A4
    have c13 := rect3 A4
    have c20 := rect0 A5
    have c21 := rect1 A5
    have c22 := rect2 A5
    have c23 := rect3 A5
    clear L0 A1 A2 A3 A4 A5
    go_upto_region 14 with (fail)
    clear c00 c01 c02 c03 c10 c11 c12 c13 c20 c21 c22 c23
    go_wp2_with (first | (go_at_call 13; (with_reducible refine (woven_all.calls _).mono ?_); rintro e w6 ⟨rfl, hb⟩; replace B0 := B0.trans (hb.mono B0.size); clear hb))
    go_ret
    exact ⟨rfl, B0⟩

theorem walk (n : Int) (s : Nat) (o : (-9223372036854775808 ≤ n ∧ n ≤ 9223372036854775807) ∧ s < 18446744073709551616) (z : Nat) (hz : z < 18446744073709551616) (w : World) :
    Calls Try.prog 6 #[labv n s, .int .u64 (z : Int)] w fun e w' => e = .returned (.bool true) ∧ Below w.heap.size w w' := by
  obtain ⟨⟨h1, h2⟩, hs⟩ := o
  rcases lab_two n s with hi | ⟨k, rfl, hk, hi⟩
  · have HS : Gives Try.prog 35 #[.agg (labc n s)] (.tuple #[.int .u64 0, .int .u64 0, .int .i64 1]) := fun w => span_no n s w h1 h2 hs hi
    have B1 := box_err n s HS
    exact bad n s z w B1 (fun w => hi ▸ isL_any n s w h1 h2 hs) (meets_err 0 4294967295 0 4294967295 n s _ _ _ _ B1)
  · have hr := lab_room hs hi
    have hg := gap_pos k
    have HS : Gives Try.prog 35 #[.agg (labc (k : Int) s)] (.tuple #[.int .u64 (s : Int), .int .u64 ((s + (gap k - 1) : Nat) : Int), .int .i64 0]) := fun w => span_yes k s w hk hs hi
    have hlt : s + (gap k - 1) < 18446744073709551616 := by omega
    have B1 := box_ok (k : Int) s _ _ hs hlt HS
    have hown := box_own hi
    have H2 := inside_any (evX s) (evX (s + (gap k - 1))) (odY s) (odY (s + (gap k - 1))) z hz
    have H3 : Gives Try.prog 27 #[.agg (labc (k : Int) s), .int .u64 (z : Int)] (.bool (insideB (evX s) (evX (s + (gap k - 1))) (odY s) (odY (s + (gap k - 1))) z)) := fun w => by
      have h := covers_yes k s z w hk hs hz hi
      rw [covers_box hs hi hz] at h
      exact h
    have H4 := isM_any (evX s) (evX (s + (gap k - 1))) (odY s) (odY (s + (gap k - 1)))
    rw [hown.1] at H4
    have H5 := holds_ok (evX s) (evX (s + (gap k - 1))) (odY s) (odY (s + (gap k - 1))) (k : Int) s _ _ hs hlt HS
    rw [hown.2] at H5
    by_cases h64 : k = 64
    · subst h64
      rw [gap_full, Nat.sub_self, Nat.add_zero] at B1 H2 H3 H4 H5
      exact point _ s z _ _ _ w B1 H2 H3 H4 H5 (fun w => child_full s 0 w hs hi (by omega)) (fun w => child_full s 1 w hs hi (by omega))
    · have hk' : k < 64 := by omega
      have hgs := gap_succ k hk'
      have hg1 := gap_pos (k + 1)
      have l0 : lowB (k + 1) s = true := by have h := chB_low (bit := 0) hk' hi; unfold chB at h; rwa [if_pos rfl] at h
      have l1 : lowB (k + 1) (s + gap (k + 1)) = true := by have h := chB_low (bit := 1) hk' hi; unfold chB at h; rwa [if_neg (by omega)] at h
      have hs1 : s + gap (k + 1) < 18446744073709551616 := by omega
      have B8 := box_ok ((k + 1 : Nat) : Int) s _ _ hs (by omega) (fun w => span_yes (k + 1) s w (by omega) hs l0)
      have B9 := box_ok ((k + 1 : Nat) : Int) (s + gap (k + 1)) _ _ hs1 (by omega) (fun w => span_yes (k + 1) (s + gap (k + 1)) w (by omega) hs1 l1)
      rw [show s + gap (k + 1) + (gap (k + 1) - 1) = s + (gap k - 1) by omega] at B9
      have C6 : Gives Try.prog 28 #[.agg (labc (k : Int) s), .int .i64 0] (.tuple #[.agg (labc ((k : Int) + 1) s), .int .i64 0]) := fun w => child_zero k s w hk' hs hi
      have C7 : Gives Try.prog 28 #[.agg (labc (k : Int) s), .int .i64 1] (.tuple #[.agg (labc ((k : Int) + 1) (s + gap (k + 1))), .int .i64 0]) := fun w => child_one k s w hk' hs hi
      have e1 : ((k + 1 : Nat) : Int) = (k : Int) + 1 := by omega
      rw [e1] at B8 B9
      have x1 := evX_lt (s + gap (k + 1))
      have y1 := odY_lt (s + gap (k + 1))
      rcases half_box hk' hi with ⟨a1, a2, a3, a4⟩ | ⟨a1, a2, a3, a4⟩
      · rw [a3] at B8
        rw [a2] at B9
        exact wide _ s _ z _ _ _ _ _ _ _ w B1 H2 H3 H4 H5 C6 C7 B8 B9 (by rw [beq_iff_eq]; omega) (by rw [beq_eq_false_iff_ne]; omega)
      · rw [a3] at B8
        rw [a2] at B9
        exact high _ s _ z _ _ _ _ _ _ _ w B1 H2 H3 H4 H5 C6 C7 B8 B9 (by rw [beq_iff_eq]; omega) (by rw [beq_eq_false_iff_ne]; omega)

set_option maxRecDepth 100000 in
theorem lifted (os : Os) (started : os.Started) (H : Type) (enc : TypeId × Value → H) :
    ReturnsInHanded {} Try.checked os 6 .any (Rows.mortonCoversSpec.pre6 enc Try.prog Try.f6 Rows.mortonCoversRow.domain false) (Rows.mortonCoversSpec.post enc Try.prog Try.f6 false true false false) := by
  refine returnsInHanded_of_change (C := Try.checked) own started (by kernel_rfl) Try.func6
    (ChangeSpec.witness6 (enc := enc) (C := Try.checked) false ⟨#[], #[.agg #[.int .i64 0, .int .u64 0], .int .u64 0], []⟩ 8 (by kernel_rfl) (by kernel_rfl) (by kernel_rfl) (by kernel_rfl)) ?_
  intro W base args ds gs before hval0 hW hcnd _
  have hval : ∀ (j : Nat) t v, Try.f6.params[j]? = some t → args[j]? = some v → Value.okWide Try.prog W .any base t v := hval0
  have hW' := hW
  obtain ⟨p, q, hA0, hV, rfl, hfz, hnd⟩ := hW
  have hA : DataW.TrodAll enc Try.prog W 0 (fun _ => true) true Try.f6.params.toList args.toList ds p := hA0
  rw [Try.params6] at hA hval
  obtain ⟨v0, vs0, d0, ds0, p0, q0, hargs, rfl, rfl, h0, r0⟩ := trodAll_cons hA
  obtain ⟨v1, vs1, d1, ds1, p1, q1, rfl, rfl, rfl, h1, r1⟩ := trodAll_cons r0
  obtain ⟨rfl, rfl, rfl⟩ := trodAll_nil r1
  obtain rfl : args = #[v0, v1] := by cases args; simp_all
  obtain ⟨rfl, rfl⟩ := trodVars_none hV
  have k0 := h0
  have lt0 : ∀ x ∈ p0, x.block < W.heap.size := by obtain ⟨m, hm⟩ := k0; exact DataW.trod_lt m _ _ _ hm
  obtain ⟨n0, b0, ok0, rfl⟩ := open_label (hval 0 36 v0 rfl rfl) h0
  have k1 := h1
  have lt1 : ∀ x ∈ p1, x.block < W.heap.size := by obtain ⟨m, hm⟩ := k1; exact DataW.trod_lt m _ _ _ hm
  obtain ⟨n1, ok1, rfl⟩ := open_u64 (hval 1 23 v1 rfl rfl) h1
  clear hA0 hval0
  refine (walk n0 b0 ok0 n1 ok1 W ).mono fun e W' ⟨he, bel⟩ => ?_
  subst he
  exact ⟨_, rfl, _, _, _, [], _, [], hW', trodAll_mk1 (shut_bool Try.underlying4 _), (trodAll_cons_mk (Below.trod laidOut (by kernel_rfl) (of_decide_eq_true (by kernel_rfl)) k0 bel lt0) (trodAll_cons_mk (Below.trod laidOut (by kernel_rfl) (of_decide_eq_true (by kernel_rfl)) k1 bel lt1) trodAll_mk0)), rfl, bel.frame _, fun h => by cases h⟩

theorem proved : Rows.MortonCoversSaid :=
  OpenClaim.holds_of_wide 6 Try.f6 rfl rfl rfl rfl rfl rfl rfl ⟨rfl, rfl, rfl, rfl, rfl⟩ rfl rfl rfl rfl rfl (by kernel_rfl) Try.func6 (by kernel_rfl)
    (of_decide_eq_true (by kernel_rfl)) (by unfold Func.isWrapper; first | (rw [if_pos (by decide +kernel)]; kernel_rfl) | (rw [if_neg (by decide +kernel)]; exact ⟨rfl, rfl⟩))
    (fun os started H enc _ => lifted os started H enc)
end Go.Proofs.Ytdhcilnkimmblaa.MorCoversLaw
