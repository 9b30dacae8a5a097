/- Whether a record is right: Is. -/
import Derived.Test.YtkicndengkcojaaRecIs
namespace Go.Proofs.Ytkicndengkcojaa
set_option maxRecDepth 100000
open Go Go.RowKit Go.Sort

set_option maxHeartbeats 1000000 in
theorem is2_items (items : List It) (nl : Int) (nb mark : Nat) (a : Option Addr) (n c : Nat) (w : World) (hn : 0 < n) :
    Calls Try.prog 15 #[.agg (recC ⟨2, items, nl, nb, mark⟩ (.slice a n c))] w fun e w' => e = .returned (.bool false) ∧ Below w.heap.size w w' := by
  have hd : decide (0 < n) = true := decide_eq_true (by omega)
  clear hn
  go_enter Try.func15, Try.ntmps15
  simp only [recC]
  go_upto_region 1 with (fail)
  have A0 := Lib.hid (Blk.new w (recC ⟨2, items, nl, nb, mark⟩ (.slice a n c)) 27)
  have B0 := Lib.hid ((Below.refl w.heap.size w).alloc (Nat.le_refl _) (.cells (recC ⟨2, items, nl, nb, mark⟩ (.slice a n c)) 27))
  simp only [recC] at A0 B0
  generalize w.alloc _ = W at *
  have c0 : W.cell? ⟨w.heap.size, 0, none⟩ = some (.int .i64 2) := A0.out.cell 0
  have c4 : W.cell? ⟨w.heap.size, 4, none⟩ = some (.int .u64 (mark : Int)) := A0.out.cell 4
  go_upto_region 7 with (fail)
  clear c0 c4
  have c1 : ∀ d os, (grow (redrawn W d) os).cell? ⟨w.heap.size, 1, none⟩ = some (.slice a n c) := fun d os => A0.out.grown 1 d os
  have HN := none_any
  refine wp_region_quiet_below (by kernel_rfl) (by kernel_rfl) ?_
  repeat (first
    | go_big_quiet_skip
    | (go_big_quiet_want
       first
       | (first | refine q_midL _ rfl _ rfl ⟨2, items, nl, nb, mark⟩ (.slice a n c) A0.out ?_
          simp only [Act.put, List.setIfInBounds_toArray, List.set_cons_succ, List.set_cons_zero]
          go_big_quiet_on)
       | (go_big_quiet_op
          first | go_big_quiet_on | go_big_quiet_call (first | with_reducible exact HN.grown _ _))))
  refine wpQuiet_nil ?_
  intro _ hw'
  replace A0 := Lib.hid (A0.out.below (quiet_fin hw') A0.out.lt)
  replace B0 := Lib.hid (rstep B0.out (quiet_fin hw'))
  clear hw' c1
  rename_i W2
  have c4 : W2.cell? ⟨w.heap.size, 4, none⟩ = some (.int .u64 (mark : Int)) := A0.out.cell 4
  go_wp2
  go_ret
  exact ⟨rfl, B0.out⟩
set_option maxHeartbeats 1000000 in
theorem is2_next (items : List It) (nl : Int) (nb mark : Nat) (a : Option Addr) (n c : Nat) (w : World) (hn : n = 0) (_HE : (!eqL nl nb (-1) 0) = true) :
    Calls Try.prog 15 #[.agg (recC ⟨2, items, nl, nb, mark⟩ (.slice a n c))] w fun e w' => e = .returned (.bool false) ∧ Below w.heap.size w w' := by
  have hd : decide (0 < n) = false := decide_eq_false (by omega)
  clear hn
  go_enter Try.func15, Try.ntmps15
  simp only [recC]
  go_upto_region 1 with (fail)
  have A0 := Lib.hid (Blk.new w (recC ⟨2, items, nl, nb, mark⟩ (.slice a n c)) 27)
  have B0 := Lib.hid ((Below.refl w.heap.size w).alloc (Nat.le_refl _) (.cells (recC ⟨2, items, nl, nb, mark⟩ (.slice a n c)) 27))
  simp only [recC] at A0 B0
  generalize w.alloc _ = W at *
  have c0 : W.cell? ⟨w.heap.size, 0, none⟩ = some (.int .i64 2) := A0.out.cell 0
  have c4 : W.cell? ⟨w.heap.size, 4, none⟩ = some (.int .u64 (mark : Int)) := A0.out.cell 4
  go_upto_region 7 with (fail)
  clear c0 c4
  have c1 : ∀ d os, (grow (redrawn W d) os).cell? ⟨w.heap.size, 1, none⟩ = some (.slice a n c) := fun d os => A0.out.grown 1 d os
  have HN := none_any
  refine wp_region_quiet_below (by kernel_rfl) (by kernel_rfl) ?_
  repeat (first
    | go_big_quiet_skip
    | (go_big_quiet_want
       first
       | (first | refine q_midL _ rfl _ rfl ⟨2, items, nl, nb, mark⟩ (.slice a n c) A0.out ?_ | refine q_neqL _ _ rfl nl nb (-1) 0 rfl rfl _HE ?_
          simp only [Act.put, List.setIfInBounds_toArray, List.set_cons_succ, List.set_cons_zero]
          go_big_quiet_on)
       | (go_big_quiet_op
          first | go_big_quiet_on | go_big_quiet_call (first | with_reducible exact HN.grown _ _))))
  refine wpQuiet_nil ?_
  intro _ hw'
  replace A0 := Lib.hid (A0.out.below (quiet_fin hw') A0.out.lt)
  replace B0 := Lib.hid (rstep B0.out (quiet_fin hw'))
  clear hw' c1
  rename_i W2
  have c4 : W2.cell? ⟨w.heap.size, 4, none⟩ = some (.int .u64 (mark : Int)) := A0.out.cell 4
  go_wp2
  go_ret
  exact ⟨rfl, B0.out⟩
set_option maxHeartbeats 1000000 in
theorem is2_mark (items : List It) (nl : Int) (nb mark : Nat) (a : Option Addr) (n c : Nat) (w : World) (hn : n = 0) (_HE : (!eqL nl nb (-1) 0) = false) (hm : mark ≠ 0) :
    Calls Try.prog 15 #[.agg (recC ⟨2, items, nl, nb, mark⟩ (.slice a n c))] w fun e w' => e = .returned (.bool false) ∧ Below w.heap.size w w' := by
  have hd : decide (0 < n) = false := decide_eq_false (by omega)
  clear hn
  have hm2 : ((mark : Int) != 0) = true := by simp; omega
  clear hm
  go_enter Try.func15, Try.ntmps15
  simp only [recC]
  go_upto_region 1 with (fail)
  have A0 := Lib.hid (Blk.new w (recC ⟨2, items, nl, nb, mark⟩ (.slice a n c)) 27)
  have B0 := Lib.hid ((Below.refl w.heap.size w).alloc (Nat.le_refl _) (.cells (recC ⟨2, items, nl, nb, mark⟩ (.slice a n c)) 27))
  simp only [recC] at A0 B0
  generalize w.alloc _ = W at *
  have c0 : W.cell? ⟨w.heap.size, 0, none⟩ = some (.int .i64 2) := A0.out.cell 0
  have c4 : W.cell? ⟨w.heap.size, 4, none⟩ = some (.int .u64 (mark : Int)) := A0.out.cell 4
  go_upto_region 7 with (fail)
  clear c0 c4
  have c1 : ∀ d os, (grow (redrawn W d) os).cell? ⟨w.heap.size, 1, none⟩ = some (.slice a n c) := fun d os => A0.out.grown 1 d os
  have HN := none_any
  refine wp_region_quiet_below (by kernel_rfl) (by kernel_rfl) ?_
  repeat (first
    | go_big_quiet_skip
    | (go_big_quiet_want
       first
       | (first | refine q_midL _ rfl _ rfl ⟨2, items, nl, nb, mark⟩ (.slice a n c) A0.out ?_ | refine q_neqL _ _ rfl nl nb (-1) 0 rfl rfl _HE ?_
          simp only [Act.put, List.setIfInBounds_toArray, List.set_cons_succ, List.set_cons_zero]
          go_big_quiet_on)
       | (go_big_quiet_op
          first | go_big_quiet_on | go_big_quiet_call (first | with_reducible exact HN.grown _ _))))
  refine wpQuiet_nil ?_
  intro _ hw'
  replace A0 := Lib.hid (A0.out.below (quiet_fin hw') A0.out.lt)
  replace B0 := Lib.hid (rstep B0.out (quiet_fin hw'))
  clear hw' c1
  rename_i W2
  have c4 : W2.cell? ⟨w.heap.size, 4, none⟩ = some (.int .u64 (mark : Int)) := A0.out.cell 4
  go_wp2
  go_ret
  exact ⟨rfl, B0.out⟩
set_option maxHeartbeats 1000000 in
theorem is2_false (items : List It) (nl : Int) (nb mark : Nat) (a : Option Addr) (n c : Nat) (w : World) (hn : n = 0) (HE0 : (!eqL nl nb (-1) 0) = false) (_HE : eqL nl nb (-1) 0 = true) (hm : mark = 0) (HA : Hid (∀ w1, Below w.heap.size w w1 → Calls Try.prog 50 #[.slice a n c] w1 fun e w' => e = .returned (.bool false) ∧ Below w1.heap.size w1 w')) (lb : Bool) (_HI : Gives Try.prog 51 #[.agg (labc nl nb)] (.bool lb)) :
    Calls Try.prog 15 #[.agg (recC ⟨2, items, nl, nb, mark⟩ (.slice a n c))] w fun e w' => e = .returned (.bool false) ∧ Below w.heap.size w w' := by
  have hd : decide (0 < n) = false := decide_eq_false (by omega)
  clear hn
  have hm2 : ((mark : Int) != 0) = false := by simp; omega
  clear hm
  go_enter Try.func15, Try.ntmps15
  simp only [recC]
  go_upto_region 1 with (fail)
  have A0 := Lib.hid (Blk.new w (recC ⟨2, items, nl, nb, mark⟩ (.slice a n c)) 27)
  have B0 := Lib.hid ((Below.refl w.heap.size w).alloc (Nat.le_refl _) (.cells (recC ⟨2, items, nl, nb, mark⟩ (.slice a n c)) 27))
  simp only [recC] at A0 B0
  generalize w.alloc _ = W at *
  have c0 : W.cell? ⟨w.heap.size, 0, none⟩ = some (.int .i64 2) := A0.out.cell 0
  have c4 : W.cell? ⟨w.heap.size, 4, none⟩ = some (.int .u64 (mark : Int)) := A0.out.cell 4
  go_upto_region 7 with (fail)
  clear c0 c4
  have c1 : ∀ d os, (grow (redrawn W d) os).cell? ⟨w.heap.size, 1, none⟩ = some (.slice a n c) := fun d os => A0.out.grown 1 d os
  have HN := none_any
  refine wp_region_quiet_below (by kernel_rfl) (by kernel_rfl) ?_
  repeat (first
    | go_big_quiet_skip
    | (go_big_quiet_want
       first
       | (first | refine q_midL _ rfl _ rfl ⟨2, items, nl, nb, mark⟩ (.slice a n c) A0.out ?_ | refine q_neqL _ _ rfl nl nb (-1) 0 rfl rfl HE0 ?_
          simp only [Act.put, List.setIfInBounds_toArray, List.set_cons_succ, List.set_cons_zero]
          go_big_quiet_on)
       | (go_big_quiet_op
          first | go_big_quiet_on | go_big_quiet_call (first | with_reducible exact HN.grown _ _))))
  refine wpQuiet_nil ?_
  intro _ hw'
  replace A0 := Lib.hid (A0.out.below (quiet_fin hw') A0.out.lt)
  replace B0 := Lib.hid (rstep B0.out (quiet_fin hw'))
  clear hw' c1
  rename_i W2
  have c4 : W2.cell? ⟨w.heap.size, 4, none⟩ = some (.int .u64 (mark : Int)) := A0.out.cell 4
  go_upto_region 11 with (fail)
  clear c4
  have c1 : ∀ d os, (grow (redrawn W2 d) os).cell? ⟨w.heap.size, 1, none⟩ = some (.slice a n c) := fun d os => A0.out.grown 1 d os
  have HN := none_any
  have HA2 := Lib.hid (fun d os => Calls.regrown_of (d := d) (os := os) (HA.out _ (rstep B0.out (below_regrown W2 d os))))
  refine wp_region_quiet_below (by kernel_rfl) (by kernel_rfl) ?_
  repeat (first
    | go_big_quiet_skip
    | (go_big_quiet_want
       first
       | (first | refine q_midL _ rfl _ rfl ⟨2, items, nl, nb, mark⟩ (.slice a n c) A0.out ?_ | refine q_eqlL _ _ rfl nl nb (-1) 0 rfl rfl _HE ?_
          simp only [Act.put, List.setIfInBounds_toArray, List.set_cons_succ, List.set_cons_zero]
          go_big_quiet_on)
       | (go_big_quiet_op
          first | go_big_quiet_on | go_big_quiet_call (first | with_reducible exact HN.grown _ _ | with_reducible exact HA2.out _ _ | with_reducible exact _HI.grown _ _))))
  refine wpQuiet_nil ?_
  intro _ hw'
  replace B0 := Lib.hid (rstep B0.out (quiet_fin hw'))
  clear hw' c1
  go_wp2
  go_ret
  exact ⟨rfl, B0.out⟩
set_option maxHeartbeats 1000000 in
theorem is2_true (items : List It) (nl : Int) (nb mark : Nat) (a : Option Addr) (n c : Nat) (w : World) (hn : n = 0) (HE0 : (!eqL nl nb (-1) 0) = false) (_HE : eqL nl nb (-1) 0 = true) (hm : mark = 0) (HA : Hid (∀ w1, Below w.heap.size w w1 → Calls Try.prog 50 #[.slice a n c] w1 fun e w' => e = .returned (.bool true) ∧ Below w1.heap.size w1 w')) (lb : Bool) (_HI : Gives Try.prog 51 #[.agg (labc nl nb)] (.bool lb)) :
    Calls Try.prog 15 #[.agg (recC ⟨2, items, nl, nb, mark⟩ (.slice a n c))] w fun e w' => e = .returned (.bool true) ∧ Below w.heap.size w w' := by
  have hd : decide (0 < n) = false := decide_eq_false (by omega)
  clear hn
  have hm2 : ((mark : Int) != 0) = false := by simp; omega
  clear hm
  go_enter Try.func15, Try.ntmps15
  simp only [recC]
  go_upto_region 1 with (fail)
  have A0 := Lib.hid (Blk.new w (recC ⟨2, items, nl, nb, mark⟩ (.slice a n c)) 27)
  have B0 := Lib.hid ((Below.refl w.heap.size w).alloc (Nat.le_refl _) (.cells (recC ⟨2, items, nl, nb, mark⟩ (.slice a n c)) 27))
  simp only [recC] at A0 B0
  generalize w.alloc _ = W at *
  have c0 : W.cell? ⟨w.heap.size, 0, none⟩ = some (.int .i64 2) := A0.out.cell 0
  have c4 : W.cell? ⟨w.heap.size, 4, none⟩ = some (.int .u64 (mark : Int)) := A0.out.cell 4
  go_upto_region 7 with (fail)
  clear c0 c4
  have c1 : ∀ d os, (grow (redrawn W d) os).cell? ⟨w.heap.size, 1, none⟩ = some (.slice a n c) := fun d os => A0.out.grown 1 d os
  have HN := none_any
  refine wp_region_quiet_below (by kernel_rfl) (by kernel_rfl) ?_
  repeat (first
    | go_big_quiet_skip
    | (go_big_quiet_want
       first
       | (first | refine q_midL _ rfl _ rfl ⟨2, items, nl, nb, mark⟩ (.slice a n c) A0.out ?_ | refine q_neqL _ _ rfl nl nb (-1) 0 rfl rfl HE0 ?_
          simp only [Act.put, List.setIfInBounds_toArray, List.set_cons_succ, List.set_cons_zero]
          go_big_quiet_on)
       | (go_big_quiet_op
          first | go_big_quiet_on | go_big_quiet_call (first | with_reducible exact HN.grown _ _))))
  refine wpQuiet_nil ?_
  intro _ hw'
  replace A0 := Lib.hid (A0.out.below (quiet_fin hw') A0.out.lt)
  replace B0 := Lib.hid (rstep B0.out (quiet_fin hw'))
  clear hw' c1
  rename_i W2
  have c4 : W2.cell? ⟨w.heap.size, 4, none⟩ = some (.int .u64 (mark : Int)) := A0.out.cell 4
  go_upto_region 11 with (fail)
  clear c4
  have c1 : ∀ d os, (grow (redrawn W2 d) os).cell? ⟨w.heap.size, 1, none⟩ = some (.slice a n c) := fun d os => A0.out.grown 1 d os
  have HN := none_any
  have HA2 := Lib.hid (fun d os => Calls.regrown_of (d := d) (os := os) (HA.out _ (rstep B0.out (below_regrown W2 d os))))
  refine wp_region_quiet_below (by kernel_rfl) (by kernel_rfl) ?_
  repeat (first
    | go_big_quiet_skip
    | (go_big_quiet_want
       first
       | (first | refine q_midL _ rfl _ rfl ⟨2, items, nl, nb, mark⟩ (.slice a n c) A0.out ?_ | refine q_eqlL _ _ rfl nl nb (-1) 0 rfl rfl _HE ?_
          simp only [Act.put, List.setIfInBounds_toArray, List.set_cons_succ, List.set_cons_zero]
          go_big_quiet_on)
       | (go_big_quiet_op
          first | go_big_quiet_on | go_big_quiet_call (first | with_reducible exact HN.grown _ _ | with_reducible exact HA2.out _ _ | with_reducible exact _HI.grown _ _))))
  refine wpQuiet_nil ?_
  intro _ hw'
  replace B0 := Lib.hid (rstep B0.out (quiet_fin hw'))
  clear hw' c1
  go_wp2
  go_ret
  exact ⟨rfl, B0.out⟩
set_option maxHeartbeats 1000000 in
theorem is4_items (items : List It) (nl : Int) (nb mark : Nat) (a : Option Addr) (n c : Nat) (w : World) (hn : 0 < n) :
    Calls Try.prog 15 #[.agg (recC ⟨4, items, nl, nb, mark⟩ (.slice a n c))] w fun e w' => e = .returned (.bool false) ∧ Below w.heap.size w w' := by
  have hd : decide (0 < n) = true := decide_eq_true (by omega)
  clear hn
  go_enter Try.func15, Try.ntmps15
  simp only [recC]
  go_upto_region 1 with (fail)
  have A0 := Lib.hid (Blk.new w (recC ⟨4, items, nl, nb, mark⟩ (.slice a n c)) 27)
  have B0 := Lib.hid ((Below.refl w.heap.size w).alloc (Nat.le_refl _) (.cells (recC ⟨4, items, nl, nb, mark⟩ (.slice a n c)) 27))
  simp only [recC] at A0 B0
  generalize w.alloc _ = W at *
  have c0 : W.cell? ⟨w.heap.size, 0, none⟩ = some (.int .i64 4) := A0.out.cell 0
  have c4 : W.cell? ⟨w.heap.size, 4, none⟩ = some (.int .u64 (mark : Int)) := A0.out.cell 4
  go_upto_region 7 with (fail)
  clear c0 c4
  have c1 : ∀ d os, (grow (redrawn W d) os).cell? ⟨w.heap.size, 1, none⟩ = some (.slice a n c) := fun d os => A0.out.grown 1 d os
  have HN := none_any
  refine wp_region_quiet_below (by kernel_rfl) (by kernel_rfl) ?_
  repeat (first
    | go_big_quiet_skip
    | (go_big_quiet_want
       first
       | (first | refine q_midL _ rfl _ rfl ⟨4, items, nl, nb, mark⟩ (.slice a n c) A0.out ?_
          simp only [Act.put, List.setIfInBounds_toArray, List.set_cons_succ, List.set_cons_zero]
          go_big_quiet_on)
       | (go_big_quiet_op
          first | go_big_quiet_on | go_big_quiet_call (first | with_reducible exact HN.grown _ _))))
  refine wpQuiet_nil ?_
  intro _ hw'
  replace A0 := Lib.hid (A0.out.below (quiet_fin hw') A0.out.lt)
  replace B0 := Lib.hid (rstep B0.out (quiet_fin hw'))
  clear hw' c1
  rename_i W2
  have c4 : W2.cell? ⟨w.heap.size, 4, none⟩ = some (.int .u64 (mark : Int)) := A0.out.cell 4
  go_wp2
  go_ret
  exact ⟨rfl, B0.out⟩
set_option maxHeartbeats 1000000 in
theorem is4_next (items : List It) (nl : Int) (nb mark : Nat) (a : Option Addr) (n c : Nat) (w : World) (hn : n = 0) (_HE : (!eqL nl nb (-1) 0) = true) :
    Calls Try.prog 15 #[.agg (recC ⟨4, items, nl, nb, mark⟩ (.slice a n c))] w fun e w' => e = .returned (.bool false) ∧ Below w.heap.size w w' := by
  have hd : decide (0 < n) = false := decide_eq_false (by omega)
  clear hn
  go_enter Try.func15, Try.ntmps15
  simp only [recC]
  go_upto_region 1 with (fail)
  have A0 := Lib.hid (Blk.new w (recC ⟨4, items, nl, nb, mark⟩ (.slice a n c)) 27)
  have B0 := Lib.hid ((Below.refl w.heap.size w).alloc (Nat.le_refl _) (.cells (recC ⟨4, items, nl, nb, mark⟩ (.slice a n c)) 27))
  simp only [recC] at A0 B0
  generalize w.alloc _ = W at *
  have c0 : W.cell? ⟨w.heap.size, 0, none⟩ = some (.int .i64 4) := A0.out.cell 0
  have c4 : W.cell? ⟨w.heap.size, 4, none⟩ = some (.int .u64 (mark : Int)) := A0.out.cell 4
  go_upto_region 7 with (fail)
  clear c0 c4
  have c1 : ∀ d os, (grow (redrawn W d) os).cell? ⟨w.heap.size, 1, none⟩ = some (.slice a n c) := fun d os => A0.out.grown 1 d os
  have HN := none_any
  refine wp_region_quiet_below (by kernel_rfl) (by kernel_rfl) ?_
  repeat (first
    | go_big_quiet_skip
    | (go_big_quiet_want
       first
       | (first | refine q_midL _ rfl _ rfl ⟨4, items, nl, nb, mark⟩ (.slice a n c) A0.out ?_ | refine q_neqL _ _ rfl nl nb (-1) 0 rfl rfl _HE ?_
          simp only [Act.put, List.setIfInBounds_toArray, List.set_cons_succ, List.set_cons_zero]
          go_big_quiet_on)
       | (go_big_quiet_op
          first | go_big_quiet_on | go_big_quiet_call (first | with_reducible exact HN.grown _ _))))
  refine wpQuiet_nil ?_
  intro _ hw'
  replace A0 := Lib.hid (A0.out.below (quiet_fin hw') A0.out.lt)
  replace B0 := Lib.hid (rstep B0.out (quiet_fin hw'))
  clear hw' c1
  rename_i W2
  have c4 : W2.cell? ⟨w.heap.size, 4, none⟩ = some (.int .u64 (mark : Int)) := A0.out.cell 4
  go_wp2
  go_ret
  exact ⟨rfl, B0.out⟩
set_option maxHeartbeats 1000000 in
theorem is4_mark (items : List It) (nl : Int) (nb mark : Nat) (a : Option Addr) (n c : Nat) (w : World) (hn : n = 0) (_HE : (!eqL nl nb (-1) 0) = false) (hm : mark ≠ 0) :
    Calls Try.prog 15 #[.agg (recC ⟨4, items, nl, nb, mark⟩ (.slice a n c))] w fun e w' => e = .returned (.bool false) ∧ Below w.heap.size w w' := by
  have hd : decide (0 < n) = false := decide_eq_false (by omega)
  clear hn
  have hm2 : ((mark : Int) != 0) = true := by simp; omega
  clear hm
  go_enter Try.func15, Try.ntmps15
  simp only [recC]
  go_upto_region 1 with (fail)
  have A0 := Lib.hid (Blk.new w (recC ⟨4, items, nl, nb, mark⟩ (.slice a n c)) 27)
  have B0 := Lib.hid ((Below.refl w.heap.size w).alloc (Nat.le_refl _) (.cells (recC ⟨4, items, nl, nb, mark⟩ (.slice a n c)) 27))
  simp only [recC] at A0 B0
  generalize w.alloc _ = W at *
  have c0 : W.cell? ⟨w.heap.size, 0, none⟩ = some (.int .i64 4) := A0.out.cell 0
  have c4 : W.cell? ⟨w.heap.size, 4, none⟩ = some (.int .u64 (mark : Int)) := A0.out.cell 4
  go_upto_region 7 with (fail)
  clear c0 c4
  have c1 : ∀ d os, (grow (redrawn W d) os).cell? ⟨w.heap.size, 1, none⟩ = some (.slice a n c) := fun d os => A0.out.grown 1 d os
  have HN := none_any
  refine wp_region_quiet_below (by kernel_rfl) (by kernel_rfl) ?_
  repeat (first
    | go_big_quiet_skip
    | (go_big_quiet_want
       first
       | (first | refine q_midL _ rfl _ rfl ⟨4, items, nl, nb, mark⟩ (.slice a n c) A0.out ?_ | refine q_neqL _ _ rfl nl nb (-1) 0 rfl rfl _HE ?_
          simp only [Act.put, List.setIfInBounds_toArray, List.set_cons_succ, List.set_cons_zero]
          go_big_quiet_on)
       | (go_big_quiet_op
          first | go_big_quiet_on | go_big_quiet_call (first | with_reducible exact HN.grown _ _))))
  refine wpQuiet_nil ?_
  intro _ hw'
  replace A0 := Lib.hid (A0.out.below (quiet_fin hw') A0.out.lt)
  replace B0 := Lib.hid (rstep B0.out (quiet_fin hw'))
  clear hw' c1
  rename_i W2
  have c4 : W2.cell? ⟨w.heap.size, 4, none⟩ = some (.int .u64 (mark : Int)) := A0.out.cell 4
  go_wp2
  go_ret
  exact ⟨rfl, B0.out⟩
set_option maxHeartbeats 1000000 in
theorem is4_false (items : List It) (nl : Int) (nb mark : Nat) (a : Option Addr) (n c : Nat) (w : World) (hn : n = 0) (HE0 : (!eqL nl nb (-1) 0) = false) (_HE : eqL nl nb (-1) 0 = true) (hm : mark = 0) (HA : Hid (∀ w1, Below w.heap.size w w1 → Calls Try.prog 50 #[.slice a n c] w1 fun e w' => e = .returned (.bool false) ∧ Below w1.heap.size w1 w')) (lb : Bool) (_HI : Gives Try.prog 51 #[.agg (labc nl nb)] (.bool lb)) :
    Calls Try.prog 15 #[.agg (recC ⟨4, items, nl, nb, mark⟩ (.slice a n c))] w fun e w' => e = .returned (.bool false) ∧ Below w.heap.size w w' := by
  have hd : decide (0 < n) = false := decide_eq_false (by omega)
  clear hn
  have hm2 : ((mark : Int) != 0) = false := by simp; omega
  clear hm
  go_enter Try.func15, Try.ntmps15
  simp only [recC]
  go_upto_region 1 with (fail)
  have A0 := Lib.hid (Blk.new w (recC ⟨4, items, nl, nb, mark⟩ (.slice a n c)) 27)
  have B0 := Lib.hid ((Below.refl w.heap.size w).alloc (Nat.le_refl _) (.cells (recC ⟨4, items, nl, nb, mark⟩ (.slice a n c)) 27))
  simp only [recC] at A0 B0
  generalize w.alloc _ = W at *
  have c0 : W.cell? ⟨w.heap.size, 0, none⟩ = some (.int .i64 4) := A0.out.cell 0
  have c4 : W.cell? ⟨w.heap.size, 4, none⟩ = some (.int .u64 (mark : Int)) := A0.out.cell 4
  go_upto_region 7 with (fail)
  clear c0 c4
  have c1 : ∀ d os, (grow (redrawn W d) os).cell? ⟨w.heap.size, 1, none⟩ = some (.slice a n c) := fun d os => A0.out.grown 1 d os
  have HN := none_any
  refine wp_region_quiet_below (by kernel_rfl) (by kernel_rfl) ?_
  repeat (first
    | go_big_quiet_skip
    | (go_big_quiet_want
       first
       | (first | refine q_midL _ rfl _ rfl ⟨4, items, nl, nb, mark⟩ (.slice a n c) A0.out ?_ | refine q_neqL _ _ rfl nl nb (-1) 0 rfl rfl HE0 ?_
          simp only [Act.put, List.setIfInBounds_toArray, List.set_cons_succ, List.set_cons_zero]
          go_big_quiet_on)
       | (go_big_quiet_op
          first | go_big_quiet_on | go_big_quiet_call (first | with_reducible exact HN.grown _ _))))
  refine wpQuiet_nil ?_
  intro _ hw'
  replace A0 := Lib.hid (A0.out.below (quiet_fin hw') A0.out.lt)
  replace B0 := Lib.hid (rstep B0.out (quiet_fin hw'))
  clear hw' c1
  rename_i W2
  have c4 : W2.cell? ⟨w.heap.size, 4, none⟩ = some (.int .u64 (mark : Int)) := A0.out.cell 4
  go_upto_region 11 with (fail)
  clear c4
  have c1 : ∀ d os, (grow (redrawn W2 d) os).cell? ⟨w.heap.size, 1, none⟩ = some (.slice a n c) := fun d os => A0.out.grown 1 d os
  have HN := none_any
  have HA2 := Lib.hid (fun d os => Calls.regrown_of (d := d) (os := os) (HA.out _ (rstep B0.out (below_regrown W2 d os))))
  refine wp_region_quiet_below (by kernel_rfl) (by kernel_rfl) ?_
  repeat (first
    | go_big_quiet_skip
    | (go_big_quiet_want
       first
       | (first | refine q_midL _ rfl _ rfl ⟨4, items, nl, nb, mark⟩ (.slice a n c) A0.out ?_ | refine q_eqlL _ _ rfl nl nb (-1) 0 rfl rfl _HE ?_
          simp only [Act.put, List.setIfInBounds_toArray, List.set_cons_succ, List.set_cons_zero]
          go_big_quiet_on)
       | (go_big_quiet_op
          first | go_big_quiet_on | go_big_quiet_call (first | with_reducible exact HN.grown _ _ | with_reducible exact HA2.out _ _ | with_reducible exact _HI.grown _ _))))
  refine wpQuiet_nil ?_
  intro _ hw'
  replace B0 := Lib.hid (rstep B0.out (quiet_fin hw'))
  clear hw' c1
  go_wp2
  go_ret
  exact ⟨rfl, B0.out⟩
set_option maxHeartbeats 1000000 in
theorem is4_true (items : List It) (nl : Int) (nb mark : Nat) (a : Option Addr) (n c : Nat) (w : World) (hn : n = 0) (HE0 : (!eqL nl nb (-1) 0) = false) (_HE : eqL nl nb (-1) 0 = true) (hm : mark = 0) (HA : Hid (∀ w1, Below w.heap.size w w1 → Calls Try.prog 50 #[.slice a n c] w1 fun e w' => e = .returned (.bool true) ∧ Below w1.heap.size w1 w')) (lb : Bool) (_HI : Gives Try.prog 51 #[.agg (labc nl nb)] (.bool lb)) :
    Calls Try.prog 15 #[.agg (recC ⟨4, items, nl, nb, mark⟩ (.slice a n c))] w fun e w' => e = .returned (.bool true) ∧ Below w.heap.size w w' := by
  have hd : decide (0 < n) = false := decide_eq_false (by omega)
  clear hn
  have hm2 : ((mark : Int) != 0) = false := by simp; omega
  clear hm
  go_enter Try.func15, Try.ntmps15
  simp only [recC]
  go_upto_region 1 with (fail)
  have A0 := Lib.hid (Blk.new w (recC ⟨4, items, nl, nb, mark⟩ (.slice a n c)) 27)
  have B0 := Lib.hid ((Below.refl w.heap.size w).alloc (Nat.le_refl _) (.cells (recC ⟨4, items, nl, nb, mark⟩ (.slice a n c)) 27))
  simp only [recC] at A0 B0
  generalize w.alloc _ = W at *
  have c0 : W.cell? ⟨w.heap.size, 0, none⟩ = some (.int .i64 4) := A0.out.cell 0
  have c4 : W.cell? ⟨w.heap.size, 4, none⟩ = some (.int .u64 (mark : Int)) := A0.out.cell 4
  go_upto_region 7 with (fail)
  clear c0 c4
  have c1 : ∀ d os, (grow (redrawn W d) os).cell? ⟨w.heap.size, 1, none⟩ = some (.slice a n c) := fun d os => A0.out.grown 1 d os
  have HN := none_any
  refine wp_region_quiet_below (by kernel_rfl) (by kernel_rfl) ?_
  repeat (first
    | go_big_quiet_skip
    | (go_big_quiet_want
       first
       | (first | refine q_midL _ rfl _ rfl ⟨4, items, nl, nb, mark⟩ (.slice a n c) A0.out ?_ | refine q_neqL _ _ rfl nl nb (-1) 0 rfl rfl HE0 ?_
          simp only [Act.put, List.setIfInBounds_toArray, List.set_cons_succ, List.set_cons_zero]
          go_big_quiet_on)
       | (go_big_quiet_op
          first | go_big_quiet_on | go_big_quiet_call (first | with_reducible exact HN.grown _ _))))
  refine wpQuiet_nil ?_
  intro _ hw'
  replace A0 := Lib.hid (A0.out.below (quiet_fin hw') A0.out.lt)
  replace B0 := Lib.hid (rstep B0.out (quiet_fin hw'))
  clear hw' c1
  rename_i W2
  have c4 : W2.cell? ⟨w.heap.size, 4, none⟩ = some (.int .u64 (mark : Int)) := A0.out.cell 4
  go_upto_region 11 with (fail)
  clear c4
  have c1 : ∀ d os, (grow (redrawn W2 d) os).cell? ⟨w.heap.size, 1, none⟩ = some (.slice a n c) := fun d os => A0.out.grown 1 d os
  have HN := none_any
  have HA2 := Lib.hid (fun d os => Calls.regrown_of (d := d) (os := os) (HA.out _ (rstep B0.out (below_regrown W2 d os))))
  refine wp_region_quiet_below (by kernel_rfl) (by kernel_rfl) ?_
  repeat (first
    | go_big_quiet_skip
    | (go_big_quiet_want
       first
       | (first | refine q_midL _ rfl _ rfl ⟨4, items, nl, nb, mark⟩ (.slice a n c) A0.out ?_ | refine q_eqlL _ _ rfl nl nb (-1) 0 rfl rfl _HE ?_
          simp only [Act.put, List.setIfInBounds_toArray, List.set_cons_succ, List.set_cons_zero]
          go_big_quiet_on)
       | (go_big_quiet_op
          first | go_big_quiet_on | go_big_quiet_call (first | with_reducible exact HN.grown _ _ | with_reducible exact HA2.out _ _ | with_reducible exact _HI.grown _ _))))
  refine wpQuiet_nil ?_
  intro _ hw'
  replace B0 := Lib.hid (rstep B0.out (quiet_fin hw'))
  clear hw' c1
  go_wp2
  go_ret
  exact ⟨rfl, B0.out⟩
set_option maxHeartbeats 1000000 in
theorem is1_mark (items : List It) (nl : Int) (nb mark : Nat) (a : Option Addr) (n c : Nat) (w : World) (hm : mark ≠ 0) :
    Calls Try.prog 15 #[.agg (recC ⟨1, items, nl, nb, mark⟩ (.slice a n c))] w fun e w' => e = .returned (.bool false) ∧ Below w.heap.size w w' := by
  have hm2 : ((mark : Int) != 0) = true := by simp; omega
  clear hm
  go_enter Try.func15, Try.ntmps15
  simp only [recC]
  go_upto_region 1 with (fail)
  have A0 := Lib.hid (Blk.new w (recC ⟨1, items, nl, nb, mark⟩ (.slice a n c)) 27)
  have B0 := Lib.hid ((Below.refl w.heap.size w).alloc (Nat.le_refl _) (.cells (recC ⟨1, items, nl, nb, mark⟩ (.slice a n c)) 27))
  simp only [recC] at A0 B0
  generalize w.alloc _ = W at *
  have c0 : W.cell? ⟨w.heap.size, 0, none⟩ = some (.int .i64 1) := A0.out.cell 0
  have c4 : W.cell? ⟨w.heap.size, 4, none⟩ = some (.int .u64 (mark : Int)) := A0.out.cell 4
  go_wp2
  go_ret
  exact ⟨rfl, B0.out⟩
set_option maxHeartbeats 1000000 in
theorem is1_false (items : List It) (nl : Int) (nb mark : Nat) (a : Option Addr) (n c : Nat) (w : World) (hm : mark = 0) (HA : Hid (∀ w1, Below w.heap.size w w1 → Calls Try.prog 50 #[.slice a n c] w1 fun e w' => e = .returned (.bool false) ∧ Below w1.heap.size w1 w')) (lb : Bool) (_HI : Gives Try.prog 51 #[.agg (labc nl nb)] (.bool lb)) :
    Calls Try.prog 15 #[.agg (recC ⟨1, items, nl, nb, mark⟩ (.slice a n c))] w fun e w' => e = .returned (.bool false) ∧ Below w.heap.size w w' := by
  have hm2 : ((mark : Int) != 0) = false := by simp; omega
  clear hm
  go_enter Try.func15, Try.ntmps15
  simp only [recC]
  go_upto_region 1 with (fail)
  have A0 := Lib.hid (Blk.new w (recC ⟨1, items, nl, nb, mark⟩ (.slice a n c)) 27)
  have B0 := Lib.hid ((Below.refl w.heap.size w).alloc (Nat.le_refl _) (.cells (recC ⟨1, items, nl, nb, mark⟩ (.slice a n c)) 27))
  simp only [recC] at A0 B0
  generalize w.alloc _ = W at *
  have c0 : W.cell? ⟨w.heap.size, 0, none⟩ = some (.int .i64 1) := A0.out.cell 0
  have c4 : W.cell? ⟨w.heap.size, 4, none⟩ = some (.int .u64 (mark : Int)) := A0.out.cell 4
  go_upto_region 11 with (fail)
  clear c0
  clear c4
  have c1 : ∀ d os, (grow (redrawn W d) os).cell? ⟨w.heap.size, 1, none⟩ = some (.slice a n c) := fun d os => A0.out.grown 1 d os
  have HN := none_any
  have HA2 := Lib.hid (fun d os => Calls.regrown_of (d := d) (os := os) (HA.out _ (rstep B0.out (below_regrown W d os))))
  refine wp_region_quiet_below (by kernel_rfl) (by kernel_rfl) ?_
  repeat (first
    | go_big_quiet_skip
    | (go_big_quiet_want
       first
       | (first | refine q_midL _ rfl _ rfl ⟨1, items, nl, nb, mark⟩ (.slice a n c) A0.out ?_
          simp only [Act.put, List.setIfInBounds_toArray, List.set_cons_succ, List.set_cons_zero]
          go_big_quiet_on)
       | (go_big_quiet_op
          first | go_big_quiet_on | go_big_quiet_call (first | with_reducible exact HN.grown _ _ | with_reducible exact HA2.out _ _ | with_reducible exact _HI.grown _ _))))
  refine wpQuiet_nil ?_
  intro _ hw'
  replace B0 := Lib.hid (rstep B0.out (quiet_fin hw'))
  clear hw' c1
  go_wp2
  go_ret
  exact ⟨rfl, B0.out⟩
set_option maxHeartbeats 1000000 in
theorem is1_none (items : List It) (nl : Int) (nb mark : Nat) (a : Option Addr) (n c : Nat) (w : World) (hm : mark = 0) (HA : Hid (∀ w1, Below w.heap.size w w1 → Calls Try.prog 50 #[.slice a n c] w1 fun e w' => e = .returned (.bool true) ∧ Below w1.heap.size w1 w')) (_HE : eqL nl nb (-1) 0 = true) (lb : Bool) (_HI : Gives Try.prog 51 #[.agg (labc nl nb)] (.bool lb)) :
    Calls Try.prog 15 #[.agg (recC ⟨1, items, nl, nb, mark⟩ (.slice a n c))] w fun e w' => e = .returned (.bool true) ∧ Below w.heap.size w w' := by
  have hm2 : ((mark : Int) != 0) = false := by simp; omega
  clear hm
  go_enter Try.func15, Try.ntmps15
  simp only [recC]
  go_upto_region 1 with (fail)
  have A0 := Lib.hid (Blk.new w (recC ⟨1, items, nl, nb, mark⟩ (.slice a n c)) 27)
  have B0 := Lib.hid ((Below.refl w.heap.size w).alloc (Nat.le_refl _) (.cells (recC ⟨1, items, nl, nb, mark⟩ (.slice a n c)) 27))
  simp only [recC] at A0 B0
  generalize w.alloc _ = W at *
  have c0 : W.cell? ⟨w.heap.size, 0, none⟩ = some (.int .i64 1) := A0.out.cell 0
  have c4 : W.cell? ⟨w.heap.size, 4, none⟩ = some (.int .u64 (mark : Int)) := A0.out.cell 4
  go_upto_region 11 with (fail)
  clear c0
  clear c4
  have c1 : ∀ d os, (grow (redrawn W d) os).cell? ⟨w.heap.size, 1, none⟩ = some (.slice a n c) := fun d os => A0.out.grown 1 d os
  have HN := none_any
  have HA2 := Lib.hid (fun d os => Calls.regrown_of (d := d) (os := os) (HA.out _ (rstep B0.out (below_regrown W d os))))
  refine wp_region_quiet_below (by kernel_rfl) (by kernel_rfl) ?_
  repeat (first
    | go_big_quiet_skip
    | (go_big_quiet_want
       first
       | (first | refine q_midL _ rfl _ rfl ⟨1, items, nl, nb, mark⟩ (.slice a n c) A0.out ?_ | refine q_eqlL _ _ rfl nl nb (-1) 0 rfl rfl _HE ?_
          simp only [Act.put, List.setIfInBounds_toArray, List.set_cons_succ, List.set_cons_zero]
          go_big_quiet_on)
       | (go_big_quiet_op
          first | go_big_quiet_on | go_big_quiet_call (first | with_reducible exact HN.grown _ _ | with_reducible exact HA2.out _ _ | with_reducible exact _HI.grown _ _))))
  refine wpQuiet_nil ?_
  intro _ hw'
  replace B0 := Lib.hid (rstep B0.out (quiet_fin hw'))
  clear hw' c1
  go_wp2
  go_ret
  exact ⟨rfl, B0.out⟩
set_option maxHeartbeats 1000000 in
theorem is1_lab (items : List It) (nl : Int) (nb mark : Nat) (a : Option Addr) (n c : Nat) (w : World) (hm : mark = 0) (HA : Hid (∀ w1, Below w.heap.size w w1 → Calls Try.prog 50 #[.slice a n c] w1 fun e w' => e = .returned (.bool true) ∧ Below w1.heap.size w1 w')) (_HE : eqL nl nb (-1) 0 = false) (lb : Bool) (_HI : Gives Try.prog 51 #[.agg (labc nl nb)] (.bool lb)) :
    Calls Try.prog 15 #[.agg (recC ⟨1, items, nl, nb, mark⟩ (.slice a n c))] w fun e w' => e = .returned (.bool lb) ∧ Below w.heap.size w w' := by
  have hm2 : ((mark : Int) != 0) = false := by simp; omega
  clear hm
  go_enter Try.func15, Try.ntmps15
  simp only [recC]
  go_upto_region 1 with (fail)
  have A0 := Lib.hid (Blk.new w (recC ⟨1, items, nl, nb, mark⟩ (.slice a n c)) 27)
  have B0 := Lib.hid ((Below.refl w.heap.size w).alloc (Nat.le_refl _) (.cells (recC ⟨1, items, nl, nb, mark⟩ (.slice a n c)) 27))
  simp only [recC] at A0 B0
  generalize w.alloc _ = W at *
  have c0 : W.cell? ⟨w.heap.size, 0, none⟩ = some (.int .i64 1) := A0.out.cell 0
  have c4 : W.cell? ⟨w.heap.size, 4, none⟩ = some (.int .u64 (mark : Int)) := A0.out.cell 4
  go_upto_region 11 with (fail)
  clear c0
  clear c4
  have c1 : ∀ d os, (grow (redrawn W d) os).cell? ⟨w.heap.size, 1, none⟩ = some (.slice a n c) := fun d os => A0.out.grown 1 d os
  have HN := none_any
  have HA2 := Lib.hid (fun d os => Calls.regrown_of (d := d) (os := os) (HA.out _ (rstep B0.out (below_regrown W d os))))
  refine wp_region_quiet_below (by kernel_rfl) (by kernel_rfl) ?_
  repeat (first
    | go_big_quiet_skip
    | (go_big_quiet_want
       first
       | (first | refine q_midL _ rfl _ rfl ⟨1, items, nl, nb, mark⟩ (.slice a n c) A0.out ?_ | refine q_eqlL _ _ rfl nl nb (-1) 0 rfl rfl _HE ?_
          simp only [Act.put, List.setIfInBounds_toArray, List.set_cons_succ, List.set_cons_zero]
          go_big_quiet_on)
       | (go_big_quiet_op
          first | go_big_quiet_on | go_big_quiet_call (first | with_reducible exact HN.grown _ _ | with_reducible exact HA2.out _ _ | with_reducible exact _HI.grown _ _))))
  refine wpQuiet_nil ?_
  intro _ hw'
  replace B0 := Lib.hid (rstep B0.out (quiet_fin hw'))
  clear hw' c1
  go_wp2
  go_ret
  exact ⟨rfl, B0.out⟩
set_option maxHeartbeats 1000000 in
theorem is3_mark (items : List It) (nl : Int) (nb mark : Nat) (a : Option Addr) (n c : Nat) (w : World) (hm : mark ≠ 0) :
    Calls Try.prog 15 #[.agg (recC ⟨3, items, nl, nb, mark⟩ (.slice a n c))] w fun e w' => e = .returned (.bool false) ∧ Below w.heap.size w w' := by
  have hm2 : ((mark : Int) != 0) = true := by simp; omega
  clear hm
  go_enter Try.func15, Try.ntmps15
  simp only [recC]
  go_upto_region 1 with (fail)
  have A0 := Lib.hid (Blk.new w (recC ⟨3, items, nl, nb, mark⟩ (.slice a n c)) 27)
  have B0 := Lib.hid ((Below.refl w.heap.size w).alloc (Nat.le_refl _) (.cells (recC ⟨3, items, nl, nb, mark⟩ (.slice a n c)) 27))
  simp only [recC] at A0 B0
  generalize w.alloc _ = W at *
  have c0 : W.cell? ⟨w.heap.size, 0, none⟩ = some (.int .i64 3) := A0.out.cell 0
  have c4 : W.cell? ⟨w.heap.size, 4, none⟩ = some (.int .u64 (mark : Int)) := A0.out.cell 4
  go_wp2
  go_ret
  exact ⟨rfl, B0.out⟩
set_option maxHeartbeats 1000000 in
theorem is3_false (items : List It) (nl : Int) (nb mark : Nat) (a : Option Addr) (n c : Nat) (w : World) (hm : mark = 0) (HA : Hid (∀ w1, Below w.heap.size w w1 → Calls Try.prog 50 #[.slice a n c] w1 fun e w' => e = .returned (.bool false) ∧ Below w1.heap.size w1 w')) (lb : Bool) (_HI : Gives Try.prog 51 #[.agg (labc nl nb)] (.bool lb)) :
    Calls Try.prog 15 #[.agg (recC ⟨3, items, nl, nb, mark⟩ (.slice a n c))] w fun e w' => e = .returned (.bool false) ∧ Below w.heap.size w w' := by
  have hm2 : ((mark : Int) != 0) = false := by simp; omega
  clear hm
  go_enter Try.func15, Try.ntmps15
  simp only [recC]
  go_upto_region 1 with (fail)
  have A0 := Lib.hid (Blk.new w (recC ⟨3, items, nl, nb, mark⟩ (.slice a n c)) 27)
  have B0 := Lib.hid ((Below.refl w.heap.size w).alloc (Nat.le_refl _) (.cells (recC ⟨3, items, nl, nb, mark⟩ (.slice a n c)) 27))
  simp only [recC] at A0 B0
  generalize w.alloc _ = W at *
  have c0 : W.cell? ⟨w.heap.size, 0, none⟩ = some (.int .i64 3) := A0.out.cell 0
  have c4 : W.cell? ⟨w.heap.size, 4, none⟩ = some (.int .u64 (mark : Int)) := A0.out.cell 4
  go_upto_region 11 with (fail)
  clear c0
  clear c4
  have c1 : ∀ d os, (grow (redrawn W d) os).cell? ⟨w.heap.size, 1, none⟩ = some (.slice a n c) := fun d os => A0.out.grown 1 d os
  have HN := none_any
  have HA2 := Lib.hid (fun d os => Calls.regrown_of (d := d) (os := os) (HA.out _ (rstep B0.out (below_regrown W d os))))
  refine wp_region_quiet_below (by kernel_rfl) (by kernel_rfl) ?_
  repeat (first
    | go_big_quiet_skip
    | (go_big_quiet_want
       first
       | (first | refine q_midL _ rfl _ rfl ⟨3, items, nl, nb, mark⟩ (.slice a n c) A0.out ?_
          simp only [Act.put, List.setIfInBounds_toArray, List.set_cons_succ, List.set_cons_zero]
          go_big_quiet_on)
       | (go_big_quiet_op
          first | go_big_quiet_on | go_big_quiet_call (first | with_reducible exact HN.grown _ _ | with_reducible exact HA2.out _ _ | with_reducible exact _HI.grown _ _))))
  refine wpQuiet_nil ?_
  intro _ hw'
  replace B0 := Lib.hid (rstep B0.out (quiet_fin hw'))
  clear hw' c1
  go_wp2
  go_ret
  exact ⟨rfl, B0.out⟩
set_option maxHeartbeats 1000000 in
theorem is3_none (items : List It) (nl : Int) (nb mark : Nat) (a : Option Addr) (n c : Nat) (w : World) (hm : mark = 0) (HA : Hid (∀ w1, Below w.heap.size w w1 → Calls Try.prog 50 #[.slice a n c] w1 fun e w' => e = .returned (.bool true) ∧ Below w1.heap.size w1 w')) (_HE : eqL nl nb (-1) 0 = true) (lb : Bool) (_HI : Gives Try.prog 51 #[.agg (labc nl nb)] (.bool lb)) :
    Calls Try.prog 15 #[.agg (recC ⟨3, items, nl, nb, mark⟩ (.slice a n c))] w fun e w' => e = .returned (.bool true) ∧ Below w.heap.size w w' := by
  have hm2 : ((mark : Int) != 0) = false := by simp; omega
  clear hm
  go_enter Try.func15, Try.ntmps15
  simp only [recC]
  go_upto_region 1 with (fail)
  have A0 := Lib.hid (Blk.new w (recC ⟨3, items, nl, nb, mark⟩ (.slice a n c)) 27)
  have B0 := Lib.hid ((Below.refl w.heap.size w).alloc (Nat.le_refl _) (.cells (recC ⟨3, items, nl, nb, mark⟩ (.slice a n c)) 27))
  simp only [recC] at A0 B0
  generalize w.alloc _ = W at *
  have c0 : W.cell? ⟨w.heap.size, 0, none⟩ = some (.int .i64 3) := A0.out.cell 0
  have c4 : W.cell? ⟨w.heap.size, 4, none⟩ = some (.int .u64 (mark : Int)) := A0.out.cell 4
  go_upto_region 11 with (fail)
  clear c0
  clear c4
  have c1 : ∀ d os, (grow (redrawn W d) os).cell? ⟨w.heap.size, 1, none⟩ = some (.slice a n c) := fun d os => A0.out.grown 1 d os
  have HN := none_any
  have HA2 := Lib.hid (fun d os => Calls.regrown_of (d := d) (os := os) (HA.out _ (rstep B0.out (below_regrown W d os))))
  refine wp_region_quiet_below (by kernel_rfl) (by kernel_rfl) ?_
  repeat (first
    | go_big_quiet_skip
    | (go_big_quiet_want
       first
       | (first | refine q_midL _ rfl _ rfl ⟨3, items, nl, nb, mark⟩ (.slice a n c) A0.out ?_ | refine q_eqlL _ _ rfl nl nb (-1) 0 rfl rfl _HE ?_
          simp only [Act.put, List.setIfInBounds_toArray, List.set_cons_succ, List.set_cons_zero]
          go_big_quiet_on)
       | (go_big_quiet_op
          first | go_big_quiet_on | go_big_quiet_call (first | with_reducible exact HN.grown _ _ | with_reducible exact HA2.out _ _ | with_reducible exact _HI.grown _ _))))
  refine wpQuiet_nil ?_
  intro _ hw'
  replace B0 := Lib.hid (rstep B0.out (quiet_fin hw'))
  clear hw' c1
  go_wp2
  go_ret
  exact ⟨rfl, B0.out⟩
set_option maxHeartbeats 1000000 in
theorem is3_lab (items : List It) (nl : Int) (nb mark : Nat) (a : Option Addr) (n c : Nat) (w : World) (hm : mark = 0) (HA : Hid (∀ w1, Below w.heap.size w w1 → Calls Try.prog 50 #[.slice a n c] w1 fun e w' => e = .returned (.bool true) ∧ Below w1.heap.size w1 w')) (_HE : eqL nl nb (-1) 0 = false) (lb : Bool) (_HI : Gives Try.prog 51 #[.agg (labc nl nb)] (.bool lb)) :
    Calls Try.prog 15 #[.agg (recC ⟨3, items, nl, nb, mark⟩ (.slice a n c))] w fun e w' => e = .returned (.bool lb) ∧ Below w.heap.size w w' := by
  have hm2 : ((mark : Int) != 0) = false := by simp; omega
  clear hm
  go_enter Try.func15, Try.ntmps15
  simp only [recC]
  go_upto_region 1 with (fail)
  have A0 := Lib.hid (Blk.new w (recC ⟨3, items, nl, nb, mark⟩ (.slice a n c)) 27)
  have B0 := Lib.hid ((Below.refl w.heap.size w).alloc (Nat.le_refl _) (.cells (recC ⟨3, items, nl, nb, mark⟩ (.slice a n c)) 27))
  simp only [recC] at A0 B0
  generalize w.alloc _ = W at *
  have c0 : W.cell? ⟨w.heap.size, 0, none⟩ = some (.int .i64 3) := A0.out.cell 0
  have c4 : W.cell? ⟨w.heap.size, 4, none⟩ = some (.int .u64 (mark : Int)) := A0.out.cell 4
  go_upto_region 11 with (fail)
  clear c0
  clear c4
  have c1 : ∀ d os, (grow (redrawn W d) os).cell? ⟨w.heap.size, 1, none⟩ = some (.slice a n c) := fun d os => A0.out.grown 1 d os
  have HN := none_any
  have HA2 := Lib.hid (fun d os => Calls.regrown_of (d := d) (os := os) (HA.out _ (rstep B0.out (below_regrown W d os))))
  refine wp_region_quiet_below (by kernel_rfl) (by kernel_rfl) ?_
  repeat (first
    | go_big_quiet_skip
    | (go_big_quiet_want
       first
       | (first | refine q_midL _ rfl _ rfl ⟨3, items, nl, nb, mark⟩ (.slice a n c) A0.out ?_ | refine q_eqlL _ _ rfl nl nb (-1) 0 rfl rfl _HE ?_
          simp only [Act.put, List.setIfInBounds_toArray, List.set_cons_succ, List.set_cons_zero]
          go_big_quiet_on)
       | (go_big_quiet_op
          first | go_big_quiet_on | go_big_quiet_call (first | with_reducible exact HN.grown _ _ | with_reducible exact HA2.out _ _ | with_reducible exact _HI.grown _ _))))
  refine wpQuiet_nil ?_
  intro _ hw'
  replace B0 := Lib.hid (rstep B0.out (quiet_fin hw'))
  clear hw' c1
  go_wp2
  go_ret
  exact ⟨rfl, B0.out⟩
set_option maxHeartbeats 1000000 in
theorem is5_false (items : List It) (nl : Int) (nb mark : Nat) (a : Option Addr) (n c : Nat) (w : World) (HA : Hid (∀ w1, Below w.heap.size w w1 → Calls Try.prog 50 #[.slice a n c] w1 fun e w' => e = .returned (.bool false) ∧ Below w1.heap.size w1 w')) (lb : Bool) (_HI : Gives Try.prog 51 #[.agg (labc nl nb)] (.bool lb)) :
    Calls Try.prog 15 #[.agg (recC ⟨5, items, nl, nb, mark⟩ (.slice a n c))] w fun e w' => e = .returned (.bool false) ∧ Below w.heap.size w w' := by
  go_enter Try.func15, Try.ntmps15
  simp only [recC]
  go_upto_region 1 with (fail)
  have A0 := Lib.hid (Blk.new w (recC ⟨5, items, nl, nb, mark⟩ (.slice a n c)) 27)
  have B0 := Lib.hid ((Below.refl w.heap.size w).alloc (Nat.le_refl _) (.cells (recC ⟨5, items, nl, nb, mark⟩ (.slice a n c)) 27))
  simp only [recC] at A0 B0
  generalize w.alloc _ = W at *
  have c0 : W.cell? ⟨w.heap.size, 0, none⟩ = some (.int .i64 5) := A0.out.cell 0
  have c4 : W.cell? ⟨w.heap.size, 4, none⟩ = some (.int .u64 (mark : Int)) := A0.out.cell 4
  go_upto_region 11 with (fail)
  clear c0
  clear c4
  have c1 : ∀ d os, (grow (redrawn W d) os).cell? ⟨w.heap.size, 1, none⟩ = some (.slice a n c) := fun d os => A0.out.grown 1 d os
  have HN := none_any
  have HA2 := Lib.hid (fun d os => Calls.regrown_of (d := d) (os := os) (HA.out _ (rstep B0.out (below_regrown W d os))))
  refine wp_region_quiet_below (by kernel_rfl) (by kernel_rfl) ?_
  repeat (first
    | go_big_quiet_skip
    | (go_big_quiet_want
       first
       | (first | refine q_midL _ rfl _ rfl ⟨5, items, nl, nb, mark⟩ (.slice a n c) A0.out ?_
          simp only [Act.put, List.setIfInBounds_toArray, List.set_cons_succ, List.set_cons_zero]
          go_big_quiet_on)
       | (go_big_quiet_op
          first | go_big_quiet_on | go_big_quiet_call (first | with_reducible exact HN.grown _ _ | with_reducible exact HA2.out _ _ | with_reducible exact _HI.grown _ _))))
  refine wpQuiet_nil ?_
  intro _ hw'
  replace B0 := Lib.hid (rstep B0.out (quiet_fin hw'))
  clear hw' c1
  go_wp2
  go_ret
  exact ⟨rfl, B0.out⟩
set_option maxHeartbeats 1000000 in
theorem is5_none (items : List It) (nl : Int) (nb mark : Nat) (a : Option Addr) (n c : Nat) (w : World) (HA : Hid (∀ w1, Below w.heap.size w w1 → Calls Try.prog 50 #[.slice a n c] w1 fun e w' => e = .returned (.bool true) ∧ Below w1.heap.size w1 w')) (_HE : eqL nl nb (-1) 0 = true) (lb : Bool) (_HI : Gives Try.prog 51 #[.agg (labc nl nb)] (.bool lb)) :
    Calls Try.prog 15 #[.agg (recC ⟨5, items, nl, nb, mark⟩ (.slice a n c))] w fun e w' => e = .returned (.bool true) ∧ Below w.heap.size w w' := by
  go_enter Try.func15, Try.ntmps15
  simp only [recC]
  go_upto_region 1 with (fail)
  have A0 := Lib.hid (Blk.new w (recC ⟨5, items, nl, nb, mark⟩ (.slice a n c)) 27)
  have B0 := Lib.hid ((Below.refl w.heap.size w).alloc (Nat.le_refl _) (.cells (recC ⟨5, items, nl, nb, mark⟩ (.slice a n c)) 27))
  simp only [recC] at A0 B0
  generalize w.alloc _ = W at *
  have c0 : W.cell? ⟨w.heap.size, 0, none⟩ = some (.int .i64 5) := A0.out.cell 0
  have c4 : W.cell? ⟨w.heap.size, 4, none⟩ = some (.int .u64 (mark : Int)) := A0.out.cell 4
  go_upto_region 11 with (fail)
  clear c0
  clear c4
  have c1 : ∀ d os, (grow (redrawn W d) os).cell? ⟨w.heap.size, 1, none⟩ = some (.slice a n c) := fun d os => A0.out.grown 1 d os
  have HN := none_any
  have HA2 := Lib.hid (fun d os => Calls.regrown_of (d := d) (os := os) (HA.out _ (rstep B0.out (below_regrown W d os))))
  refine wp_region_quiet_below (by kernel_rfl) (by kernel_rfl) ?_
  repeat (first
    | go_big_quiet_skip
    | (go_big_quiet_want
       first
       | (first | refine q_midL _ rfl _ rfl ⟨5, items, nl, nb, mark⟩ (.slice a n c) A0.out ?_ | refine q_eqlL _ _ rfl nl nb (-1) 0 rfl rfl _HE ?_
          simp only [Act.put, List.setIfInBounds_toArray, List.set_cons_succ, List.set_cons_zero]
          go_big_quiet_on)
       | (go_big_quiet_op
          first | go_big_quiet_on | go_big_quiet_call (first | with_reducible exact HN.grown _ _ | with_reducible exact HA2.out _ _ | with_reducible exact _HI.grown _ _))))
  refine wpQuiet_nil ?_
  intro _ hw'
  replace B0 := Lib.hid (rstep B0.out (quiet_fin hw'))
  clear hw' c1
  go_wp2
  go_ret
  exact ⟨rfl, B0.out⟩
set_option maxHeartbeats 1000000 in
theorem is5_lab (items : List It) (nl : Int) (nb mark : Nat) (a : Option Addr) (n c : Nat) (w : World) (HA : Hid (∀ w1, Below w.heap.size w w1 → Calls Try.prog 50 #[.slice a n c] w1 fun e w' => e = .returned (.bool true) ∧ Below w1.heap.size w1 w')) (_HE : eqL nl nb (-1) 0 = false) (lb : Bool) (_HI : Gives Try.prog 51 #[.agg (labc nl nb)] (.bool lb)) :
    Calls Try.prog 15 #[.agg (recC ⟨5, items, nl, nb, mark⟩ (.slice a n c))] w fun e w' => e = .returned (.bool lb) ∧ Below w.heap.size w w' := by
  go_enter Try.func15, Try.ntmps15
  simp only [recC]
  go_upto_region 1 with (fail)
  have A0 := Lib.hid (Blk.new w (recC ⟨5, items, nl, nb, mark⟩ (.slice a n c)) 27)
  have B0 := Lib.hid ((Below.refl w.heap.size w).alloc (Nat.le_refl _) (.cells (recC ⟨5, items, nl, nb, mark⟩ (.slice a n c)) 27))
  simp only [recC] at A0 B0
  generalize w.alloc _ = W at *
  have c0 : W.cell? ⟨w.heap.size, 0, none⟩ = some (.int .i64 5) := A0.out.cell 0
  have c4 : W.cell? ⟨w.heap.size, 4, none⟩ = some (.int .u64 (mark : Int)) := A0.out.cell 4
  go_upto_region 11 with (fail)
  clear c0
  clear c4
  have c1 : ∀ d os, (grow (redrawn W d) os).cell? ⟨w.heap.size, 1, none⟩ = some (.slice a n c) := fun d os => A0.out.grown 1 d os
  have HN := none_any
  have HA2 := Lib.hid (fun d os => Calls.regrown_of (d := d) (os := os) (HA.out _ (rstep B0.out (below_regrown W d os))))
  refine wp_region_quiet_below (by kernel_rfl) (by kernel_rfl) ?_
  repeat (first
    | go_big_quiet_skip
    | (go_big_quiet_want
       first
       | (first | refine q_midL _ rfl _ rfl ⟨5, items, nl, nb, mark⟩ (.slice a n c) A0.out ?_ | refine q_eqlL _ _ rfl nl nb (-1) 0 rfl rfl _HE ?_
          simp only [Act.put, List.setIfInBounds_toArray, List.set_cons_succ, List.set_cons_zero]
          go_big_quiet_on)
       | (go_big_quiet_op
          first | go_big_quiet_on | go_big_quiet_call (first | with_reducible exact HN.grown _ _ | with_reducible exact HA2.out _ _ | with_reducible exact _HI.grown _ _))))
  refine wpQuiet_nil ?_
  intro _ hw'
  replace B0 := Lib.hid (rstep B0.out (quiet_fin hw'))
  clear hw' c1
  go_wp2
  go_ret
  exact ⟨rfl, B0.out⟩
end Go.Proofs.Ytkicndengkcojaa
