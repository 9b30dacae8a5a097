/- WirePuts: for all bytes, numbers, texts, places and labels the call returns true: the program puts the same bytes behind as the document, or refuses with its code. No condition. -/
import Derived.Test.YtgfcdkihahfnkaaWirWired
import Derived.Test.YtgfcdkihahfnkaaWirOpen
namespace Go.Proofs.Ytgfcdkihahfnkaa.PutsLaw
open Go.ChangeShapes Go.WideShapes Go.ChangeAt Go.RowKit Go.Sort
open Go.ChangeMaps (open_string shut_string)
set_option linter.unusedVariables false

theorem run_add (a b : ByteArray) (ha : a.size ≤ 1000000) (hb : b.size ≤ 1000000) (w : World) : (binOp .add 9 (.string a) (.string b)).run Try.prog w = .ok (.string (a ++ b)) w := by
  rw [binOp_string_add]; exact run_string_add_sum w a b (by omega)

set_option maxRecDepth 100000 in
set_option maxHeartbeats 4000000 in
theorem core_sr (b s T M N Y : ByteArray) (v p : Nat) (n : Int) (c : Nat) (w : World) (hb : b.size ≤ 500) (hs : s.size ≤ 500) (hT : T.size ≤ 1000000) (hM : M.size ≤ 1000000) (hN : N.size ≤ 1000000) (hY : Y.size ≤ 1000000)
    (h1 : Gives Try.prog 8 #[.string b, .string s] (.tuple #[.string (b ++ T), .int .i64 0]))
    (h2 : Gives Try.prog 9 #[.string b, .agg (labc n c)] (.tuple #[.string (b ++ M), .int .i64 0]))
    (h3 : Gives Try.prog 10 #[.string s] (.string T))
    (h4 : Gives Try.prog 11 #[.agg (labc n c)] (.bool true))
    (h5 : Gives Try.prog 12 #[.agg (labc n c)] (.string M))
    (h6 : Gives Try.prog 13 #[] (.bool true))
    (h7 : Gives Try.prog 14 #[.string b, .int .u64 (v : Int)] (.string (b ++ N)))
    (h8 : Gives Try.prog 15 #[.int .u64 (v : Int)] (.string N))
    (h9 : Gives Try.prog 16 #[.string b, .agg (row (dig 20 p))] (.string (b ++ Y)))
    (h10 : Gives Try.prog 17 #[.agg (row (dig 20 p))] (.string Y)) :
    Calls Try.prog 3 #[.string b, .int .u64 (v : Int), .string s, .agg (row (dig 20 p)), .agg (labc n c)] w fun e w' => e = .returned (.bool true) ∧ Below w.heap.size w w' := by
  have e1 := beq_self (b ++ T)
  have e2 := beq_self (b ++ M)
  have e3 := beq_self (b ++ N)
  have e4 := beq_self (b ++ Y)
  have a3 := run_add b N (by omega) (by omega)
  have a4 := run_add b Y (by omega) (by omega)
  go_enter Try.func3, Try.ntmps3
  go_upto_region 1 with (fail)
  have I0 := (Blk.new w (row (dig 20 p)) 24).alloc (.cells (labc n c) 26)
  have L0 := Blk.new (w.alloc (.cells (row (dig 20 p)) 24)) (labc n c) 26
  have B0 := ((Below.refl w.heap.size w).alloc (Nat.le_refl _) (.cells (row (dig 20 p)) 24)).alloc (by simp) (.cells (labc n c) 26)
  rw [World.size_alloc] at L0
  generalize (w.alloc _).alloc _ = W at *
  go_upto_region 4 with (first | (go_at_call 8; (with_reducible refine (h1.calls _).mono ?_); rintro e w1 ⟨rfl, hb1⟩))
  replace I0 := I0.below hb1 I0.lt
  replace L0 := L0.below hb1 L0.lt
  replace B0 := B0.trans (hb1.mono B0.size)
  clear hb1
  go_upto_region 5 with (first | (refine p_loadL rfl _ rfl _ rfl _ _ (by first | with_reducible exact L0) ?_) | (go_at_call 9; (with_reducible refine (h2.calls _).mono ?_); rintro e w2 ⟨rfl, hb2⟩))
  replace I0 := I0.below hb2 I0.lt
  replace L0 := L0.below hb2 L0.lt
  replace B0 := B0.trans (hb2.mono B0.size)
  clear hb2
  go_upto_region 7 with (first | (go_at_call 10; (with_reducible refine (h3.calls _).mono ?_); rintro e w3 ⟨rfl, hb3⟩))
  replace I0 := I0.below hb3 I0.lt
  replace L0 := L0.below hb3 L0.lt
  replace B0 := B0.trans (hb3.mono B0.size)
  clear hb3
  go_upto_region 8 with (first | (refine p_loadL rfl _ rfl _ rfl _ _ (by first | with_reducible exact L0) ?_) | (go_at_call 11; (with_reducible refine (h4.calls _).mono ?_); rintro e w4 ⟨rfl, hb4⟩))
  replace I0 := I0.below hb4 I0.lt
  replace L0 := L0.below hb4 L0.lt
  replace B0 := B0.trans (hb4.mono B0.size)
  clear hb4
  go_upto_region 10 with (first | (go_guarded; refine o_loadL _ rfl _ rfl _ _ (by first | with_reducible exact L0) ?_; simp only [Act.put, List.setIfInBounds_toArray, List.set_cons_succ, List.set_cons_zero]) | (go_at_call 12; (with_reducible refine (h5.calls _).mono ?_); rintro e w5 ⟨rfl, hb5⟩))
  replace I0 := I0.below hb5 I0.lt
  replace L0 := L0.below hb5 L0.lt
  replace B0 := B0.trans (hb5.mono B0.size)
  clear hb5
  refine wp_region_quiet_below (by kernel_rfl) (by kernel_rfl) ?_
  repeat (first
    | go_big_quiet_skip
    | (go_big_quiet_want
       first
       | (refine q_row 24 _ rfl w.heap.size rfl (row (dig 20 p)) 24 _ I0 Try.underlying24 rfl (info_id _ (dig_length 20 p)) ?_
          simp only [Act.put, List.setIfInBounds_toArray, List.set_cons_succ, List.set_cons_zero]
          go_big_quiet_on)
       | (go_big_quiet_op
          first | go_big_quiet_on | go_big_quiet_call (first | with_reducible exact h6.grown _ _ | with_reducible exact h7.grown _ _ | with_reducible exact h8.grown _ _ | with_reducible exact h9.grown _ _ | with_reducible exact h10.grown _ _))))
  refine wpQuiet_nil ?_
  intro _ hw'
  obtain ⟨⟨dq, osq⟩, hw''⟩ := hw'
  subst hw''
  replace B0 := B0.trans ((below_regrown _ dq osq).mono B0.size)
  clear a3 a4 I0 L0
  go_wp2
  go_ret
  exact ⟨rfl, B0⟩
set_option maxRecDepth 100000 in
set_option maxHeartbeats 4000000 in
theorem core_sn (b s T M N Y : ByteArray) (v p : Nat) (n : Int) (c : Nat) (w : World) (hb : b.size ≤ 500) (hs : s.size ≤ 500) (hT : T.size ≤ 1000000) (hM : M.size ≤ 1000000) (hN : N.size ≤ 1000000) (hY : Y.size ≤ 1000000)
    (h1 : Gives Try.prog 8 #[.string b, .string s] (.tuple #[.string (b ++ T), .int .i64 0]))
    (h2 : Gives Try.prog 9 #[.string b, .agg (labc n c)] (.tuple #[.string ⟨#[]⟩, .int .i64 1]))
    (h3 : Gives Try.prog 10 #[.string s] (.string T))
    (h4 : Gives Try.prog 11 #[.agg (labc n c)] (.bool false))
    (h6 : Gives Try.prog 13 #[] (.bool true))
    (h7 : Gives Try.prog 14 #[.string b, .int .u64 (v : Int)] (.string (b ++ N)))
    (h8 : Gives Try.prog 15 #[.int .u64 (v : Int)] (.string N))
    (h9 : Gives Try.prog 16 #[.string b, .agg (row (dig 20 p))] (.string (b ++ Y)))
    (h10 : Gives Try.prog 17 #[.agg (row (dig 20 p))] (.string Y)) :
    Calls Try.prog 3 #[.string b, .int .u64 (v : Int), .string s, .agg (row (dig 20 p)), .agg (labc n c)] w fun e w' => e = .returned (.bool true) ∧ Below w.heap.size w w' := by
  have e1 := beq_self (b ++ T)
  have e3 := beq_self (b ++ N)
  have e4 := beq_self (b ++ Y)
  have a3 := run_add b N (by omega) (by omega)
  have a4 := run_add b Y (by omega) (by omega)
  go_enter Try.func3, Try.ntmps3
  go_upto_region 1 with (fail)
  have I0 := (Blk.new w (row (dig 20 p)) 24).alloc (.cells (labc n c) 26)
  have L0 := Blk.new (w.alloc (.cells (row (dig 20 p)) 24)) (labc n c) 26
  have B0 := ((Below.refl w.heap.size w).alloc (Nat.le_refl _) (.cells (row (dig 20 p)) 24)).alloc (by simp) (.cells (labc n c) 26)
  rw [World.size_alloc] at L0
  generalize (w.alloc _).alloc _ = W at *
  go_upto_region 4 with (first | (go_at_call 8; (with_reducible refine (h1.calls _).mono ?_); rintro e w1 ⟨rfl, hb1⟩))
  replace I0 := I0.below hb1 I0.lt
  replace L0 := L0.below hb1 L0.lt
  replace B0 := B0.trans (hb1.mono B0.size)
  clear hb1
  go_upto_region 5 with (first | (refine p_loadL rfl _ rfl _ rfl _ _ (by first | with_reducible exact L0) ?_) | (go_at_call 9; (with_reducible refine (h2.calls _).mono ?_); rintro e w2 ⟨rfl, hb2⟩))
  replace I0 := I0.below hb2 I0.lt
  replace L0 := L0.below hb2 L0.lt
  replace B0 := B0.trans (hb2.mono B0.size)
  clear hb2
  go_upto_region 7 with (first | (go_at_call 10; (with_reducible refine (h3.calls _).mono ?_); rintro e w3 ⟨rfl, hb3⟩))
  replace I0 := I0.below hb3 I0.lt
  replace L0 := L0.below hb3 L0.lt
  replace B0 := B0.trans (hb3.mono B0.size)
  clear hb3
  go_upto_region 8 with (first | (refine p_loadL rfl _ rfl _ rfl _ _ (by first | with_reducible exact L0) ?_) | (go_at_call 11; (with_reducible refine (h4.calls _).mono ?_); rintro e w4 ⟨rfl, hb4⟩))
  replace I0 := I0.below hb4 I0.lt
  replace L0 := L0.below hb4 L0.lt
  replace B0 := B0.trans (hb4.mono B0.size)
  clear hb4
  go_upto_region 10 with (first | fail)
  refine wp_region_quiet_below (by kernel_rfl) (by kernel_rfl) ?_
  repeat (first
    | go_big_quiet_skip
    | (go_big_quiet_want
       first
       | (refine q_row 24 _ rfl w.heap.size rfl (row (dig 20 p)) 24 _ I0 Try.underlying24 rfl (info_id _ (dig_length 20 p)) ?_
          simp only [Act.put, List.setIfInBounds_toArray, List.set_cons_succ, List.set_cons_zero]
          go_big_quiet_on)
       | (go_big_quiet_op
          first | go_big_quiet_on | go_big_quiet_call (first | with_reducible exact h6.grown _ _ | with_reducible exact h7.grown _ _ | with_reducible exact h8.grown _ _ | with_reducible exact h9.grown _ _ | with_reducible exact h10.grown _ _))))
  refine wpQuiet_nil ?_
  intro _ hw'
  obtain ⟨⟨dq, osq⟩, hw''⟩ := hw'
  subst hw''
  replace B0 := B0.trans ((below_regrown _ dq osq).mono B0.size)
  clear a3 a4 I0 L0
  go_wp2
  go_ret
  exact ⟨rfl, B0⟩
set_option maxRecDepth 100000 in
set_option maxHeartbeats 4000000 in
theorem core_lr (b s T M N Y : ByteArray) (v p : Nat) (n : Int) (c : Nat) (w : World) (hb : b.size ≤ 500) (hs : 4096 < s.size) (hs2 : s.size ≤ 5000) (hT : T.size ≤ 1000000) (hM : M.size ≤ 1000000) (hN : N.size ≤ 1000000) (hY : Y.size ≤ 1000000)
    (h1 : Gives Try.prog 8 #[.string b, .string s] (.tuple #[.string ⟨#[]⟩, .int .i64 2]))
    (h2 : Gives Try.prog 9 #[.string b, .agg (labc n c)] (.tuple #[.string (b ++ M), .int .i64 0]))
    (h4 : Gives Try.prog 11 #[.agg (labc n c)] (.bool true))
    (h5 : Gives Try.prog 12 #[.agg (labc n c)] (.string M))
    (h6 : Gives Try.prog 13 #[] (.bool true))
    (h7 : Gives Try.prog 14 #[.string b, .int .u64 (v : Int)] (.string (b ++ N)))
    (h8 : Gives Try.prog 15 #[.int .u64 (v : Int)] (.string N))
    (h9 : Gives Try.prog 16 #[.string b, .agg (row (dig 20 p))] (.string (b ++ Y)))
    (h10 : Gives Try.prog 17 #[.agg (row (dig 20 p))] (.string Y)) :
    Calls Try.prog 3 #[.string b, .int .u64 (v : Int), .string s, .agg (row (dig 20 p)), .agg (labc n c)] w fun e w' => e = .returned (.bool true) ∧ Below w.heap.size w w' := by
  have e2 := beq_self (b ++ M)
  have e3 := beq_self (b ++ N)
  have e4 := beq_self (b ++ Y)
  have a3 := run_add b N (by omega) (by omega)
  have a4 := run_add b Y (by omega) (by omega)
  go_enter Try.func3, Try.ntmps3
  go_upto_region 1 with (fail)
  have I0 := (Blk.new w (row (dig 20 p)) 24).alloc (.cells (labc n c) 26)
  have L0 := Blk.new (w.alloc (.cells (row (dig 20 p)) 24)) (labc n c) 26
  have B0 := ((Below.refl w.heap.size w).alloc (Nat.le_refl _) (.cells (row (dig 20 p)) 24)).alloc (by simp) (.cells (labc n c) 26)
  rw [World.size_alloc] at L0
  generalize (w.alloc _).alloc _ = W at *
  go_upto_region 4 with (first | (go_at_call 8; (with_reducible refine (h1.calls _).mono ?_); rintro e w1 ⟨rfl, hb1⟩))
  replace I0 := I0.below hb1 I0.lt
  replace L0 := L0.below hb1 L0.lt
  replace B0 := B0.trans (hb1.mono B0.size)
  clear hb1
  go_upto_region 5 with (first | (refine p_loadL rfl _ rfl _ rfl _ _ (by first | with_reducible exact L0) ?_) | (go_at_call 9; (with_reducible refine (h2.calls _).mono ?_); rintro e w2 ⟨rfl, hb2⟩))
  replace I0 := I0.below hb2 I0.lt
  replace L0 := L0.below hb2 L0.lt
  replace B0 := B0.trans (hb2.mono B0.size)
  clear hb2
  go_upto_region 7 with (first | fail)
  go_upto_region 8 with (first | (refine p_loadL rfl _ rfl _ rfl _ _ (by first | with_reducible exact L0) ?_) | (go_at_call 11; (with_reducible refine (h4.calls _).mono ?_); rintro e w4 ⟨rfl, hb4⟩))
  replace I0 := I0.below hb4 I0.lt
  replace L0 := L0.below hb4 L0.lt
  replace B0 := B0.trans (hb4.mono B0.size)
  clear hb4
  go_upto_region 10 with (first | (go_guarded; refine o_loadL _ rfl _ rfl _ _ (by first | with_reducible exact L0) ?_; simp only [Act.put, List.setIfInBounds_toArray, List.set_cons_succ, List.set_cons_zero]) | (go_at_call 12; (with_reducible refine (h5.calls _).mono ?_); rintro e w5 ⟨rfl, hb5⟩))
  replace I0 := I0.below hb5 I0.lt
  replace L0 := L0.below hb5 L0.lt
  replace B0 := B0.trans (hb5.mono B0.size)
  clear hb5
  refine wp_region_quiet_below (by kernel_rfl) (by kernel_rfl) ?_
  repeat (first
    | go_big_quiet_skip
    | (go_big_quiet_want
       first
       | (refine q_row 24 _ rfl w.heap.size rfl (row (dig 20 p)) 24 _ I0 Try.underlying24 rfl (info_id _ (dig_length 20 p)) ?_
          simp only [Act.put, List.setIfInBounds_toArray, List.set_cons_succ, List.set_cons_zero]
          go_big_quiet_on)
       | (go_big_quiet_op
          first | go_big_quiet_on | go_big_quiet_call (first | with_reducible exact h6.grown _ _ | with_reducible exact h7.grown _ _ | with_reducible exact h8.grown _ _ | with_reducible exact h9.grown _ _ | with_reducible exact h10.grown _ _))))
  refine wpQuiet_nil ?_
  intro _ hw'
  obtain ⟨⟨dq, osq⟩, hw''⟩ := hw'
  subst hw''
  replace B0 := B0.trans ((below_regrown _ dq osq).mono B0.size)
  clear a3 a4 I0 L0
  go_wp2
  go_ret
  exact ⟨rfl, B0⟩
set_option maxRecDepth 100000 in
set_option maxHeartbeats 4000000 in
theorem core_ln (b s T M N Y : ByteArray) (v p : Nat) (n : Int) (c : Nat) (w : World) (hb : b.size ≤ 500) (hs : 4096 < s.size) (hs2 : s.size ≤ 5000) (hT : T.size ≤ 1000000) (hM : M.size ≤ 1000000) (hN : N.size ≤ 1000000) (hY : Y.size ≤ 1000000)
    (h1 : Gives Try.prog 8 #[.string b, .string s] (.tuple #[.string ⟨#[]⟩, .int .i64 2]))
    (h2 : Gives Try.prog 9 #[.string b, .agg (labc n c)] (.tuple #[.string ⟨#[]⟩, .int .i64 1]))
    (h4 : Gives Try.prog 11 #[.agg (labc n c)] (.bool false))
    (h6 : Gives Try.prog 13 #[] (.bool true))
    (h7 : Gives Try.prog 14 #[.string b, .int .u64 (v : Int)] (.string (b ++ N)))
    (h8 : Gives Try.prog 15 #[.int .u64 (v : Int)] (.string N))
    (h9 : Gives Try.prog 16 #[.string b, .agg (row (dig 20 p))] (.string (b ++ Y)))
    (h10 : Gives Try.prog 17 #[.agg (row (dig 20 p))] (.string Y)) :
    Calls Try.prog 3 #[.string b, .int .u64 (v : Int), .string s, .agg (row (dig 20 p)), .agg (labc n c)] w fun e w' => e = .returned (.bool true) ∧ Below w.heap.size w w' := by
  have e3 := beq_self (b ++ N)
  have e4 := beq_self (b ++ Y)
  have a3 := run_add b N (by omega) (by omega)
  have a4 := run_add b Y (by omega) (by omega)
  go_enter Try.func3, Try.ntmps3
  go_upto_region 1 with (fail)
  have I0 := (Blk.new w (row (dig 20 p)) 24).alloc (.cells (labc n c) 26)
  have L0 := Blk.new (w.alloc (.cells (row (dig 20 p)) 24)) (labc n c) 26
  have B0 := ((Below.refl w.heap.size w).alloc (Nat.le_refl _) (.cells (row (dig 20 p)) 24)).alloc (by simp) (.cells (labc n c) 26)
  rw [World.size_alloc] at L0
  generalize (w.alloc _).alloc _ = W at *
  go_upto_region 4 with (first | (go_at_call 8; (with_reducible refine (h1.calls _).mono ?_); rintro e w1 ⟨rfl, hb1⟩))
  replace I0 := I0.below hb1 I0.lt
  replace L0 := L0.below hb1 L0.lt
  replace B0 := B0.trans (hb1.mono B0.size)
  clear hb1
  go_upto_region 5 with (first | (refine p_loadL rfl _ rfl _ rfl _ _ (by first | with_reducible exact L0) ?_) | (go_at_call 9; (with_reducible refine (h2.calls _).mono ?_); rintro e w2 ⟨rfl, hb2⟩))
  replace I0 := I0.below hb2 I0.lt
  replace L0 := L0.below hb2 L0.lt
  replace B0 := B0.trans (hb2.mono B0.size)
  clear hb2
  go_upto_region 7 with (first | fail)
  go_upto_region 8 with (first | (refine p_loadL rfl _ rfl _ rfl _ _ (by first | with_reducible exact L0) ?_) | (go_at_call 11; (with_reducible refine (h4.calls _).mono ?_); rintro e w4 ⟨rfl, hb4⟩))
  replace I0 := I0.below hb4 I0.lt
  replace L0 := L0.below hb4 L0.lt
  replace B0 := B0.trans (hb4.mono B0.size)
  clear hb4
  go_upto_region 10 with (first | fail)
  refine wp_region_quiet_below (by kernel_rfl) (by kernel_rfl) ?_
  repeat (first
    | go_big_quiet_skip
    | (go_big_quiet_want
       first
       | (refine q_row 24 _ rfl w.heap.size rfl (row (dig 20 p)) 24 _ I0 Try.underlying24 rfl (info_id _ (dig_length 20 p)) ?_
          simp only [Act.put, List.setIfInBounds_toArray, List.set_cons_succ, List.set_cons_zero]
          go_big_quiet_on)
       | (go_big_quiet_op
          first | go_big_quiet_on | go_big_quiet_call (first | with_reducible exact h6.grown _ _ | with_reducible exact h7.grown _ _ | with_reducible exact h8.grown _ _ | with_reducible exact h9.grown _ _ | with_reducible exact h10.grown _ _))))
  refine wpQuiet_nil ?_
  intro _ hw'
  obtain ⟨⟨dq, osq⟩, hw''⟩ := hw'
  subst hw''
  replace B0 := B0.trans ((below_regrown _ dq osq).mono B0.size)
  clear a3 a4 I0 L0
  go_wp2
  go_ret
  exact ⟨rfl, B0⟩

theorem let_go (b s : ByteArray) (v p : Nat) (n : Int) (c : Nat) (w : World) (hb : b.size ≤ 9223372036854775807) (hs : s.size ≤ 9223372036854775807) (h : 500 < b.size ∨ (500 < s.size ∧ s.size ≤ 4096) ∨ 5000 < s.size) :
    Calls Try.prog 3 #[.string b, .int .u64 (v : Int), .string s, .agg (row (dig 20 p)), .agg (labc n c)] w fun e w' => e = .returned (.bool true) ∧ Below w.heap.size w w' := by
  rcases (by omega : 500 < b.size ∨ (b.size ≤ 500 ∧ 500 < s.size ∧ s.size ≤ 4096) ∨ (b.size ≤ 500 ∧ 5000 < s.size)) with h | ⟨h1, h2, h3⟩ | ⟨h1, h2⟩
  all_goals
    go_enter Try.func3, Try.ntmps3
    go_upto_region 1 with (fail)
    have B0 := ((Below.refl w.heap.size w).alloc (Nat.le_refl _) (.cells (row (dig 20 p)) 24)).alloc (by simp) (.cells (labc n c) 26)
    generalize (w.alloc _).alloc _ = W at *
    go_wp2
    go_ret
    exact ⟨rfl, B0⟩
theorem num_size (v : Nat) (hv : v < 18446744073709551616) : (txt (numN v)).size ≤ 1000000 := by
  have := nb_le8 hv
  rw [txt_size, numN_length]; omega
theorem walk (b : ByteArray) (v : Nat) (hv : v < 18446744073709551616) (s : ByteArray) (p : Nat) (n : Int) (c : Nat) (hl : (-9223372036854775808 ≤ n ∧ n ≤ 9223372036854775807) ∧ c < 18446744073709551616) (w : World) (wb : b.size ≤ 9223372036854775807) (ws : s.size ≤ 9223372036854775807) :
    Calls Try.prog 3 #[.string b, .int .u64 (v : Int), .string s, idv p, labv n c] w fun e w' => e = .returned (.bool true) ∧ Below w.heap.size w w' := by
  by_cases hgo : 500 < b.size ∨ (500 < s.size ∧ s.size ≤ 4096) ∨ 5000 < s.size
  · exact let_go b s v p n c w wb ws hgo
  · have hb : b.size ≤ 500 := by omega
    have hN := num_size v hv
    have hY : (txt (dig 20 p)).size ≤ 1000000 := by rw [txt_size, dig_length]; omega
    have h6 := wired_all
    have h7 : Gives Try.prog 14 #[.string b, .int .u64 (v : Int)] (.string (b ++ txt (numN v))) := fun w => putNumber_any b v w (by omega) hv
    have h8 : Gives Try.prog 15 #[.int .u64 (v : Int)] (.string (txt (numN v))) := fun w => refNum_any v w hv
    have h9 : Gives Try.prog 16 #[.string b, .agg (row (dig 20 p))] (.string (b ++ txt (dig 20 p))) := fun w => putPlace_any b p w (by omega)
    have h10 : Gives Try.prog 17 #[.agg (row (dig 20 p))] (.string (txt (dig 20 p))) := fun w => refPlace_any p w
    have hT : s.size ≤ 500 → (txt (txtN (bytesN s))).size ≤ 1000000 := fun hs => by
      have := nb_le8 (v := (bytesN s).length) (by rw [bytesN_length]; omega)
      rw [txt_size, txtN_length]
      rw [bytesN_length] at *
      omega
    cases hi : isB n c
    · have h4 : Gives Try.prog 11 #[.agg (labc n c)] (.bool false) := fun w => hi ▸ refIs_any n c w hl.2
      have h2 : Gives Try.prog 9 #[.string b, .agg (labc n c)] (.tuple #[.string ⟨#[]⟩, .int .i64 1]) := fun w => putLabel_no b n c w hl.1.1 hl.1.2 hl.2 hi
      by_cases hs : s.size ≤ 500
      · exact core_sn b s _ ⟨#[]⟩ _ _ v p n c w hb hs (hT hs) (by decide) hN hY (fun w => putText_short b s w (by omega) (by omega)) h2 (fun w => refText_any s w (by omega)) h4 h6 h7 h8 h9 h10
      · exact core_ln b s ⟨#[]⟩ ⟨#[]⟩ _ _ v p n c w hb (by omega) (by omega) (by decide) (by decide) hN hY (fun w => calls_below (putText_long b s w (by omega) (by omega))) h2 h4 h6 h7 h8 h9 h10
    · have hn := isB_len hi
      obtain ⟨m, rfl⟩ := Int.eq_ofNat_of_zero_le hn.1
      have hlow := isB_low hi
      have hM : (txt (labN m c)).size ≤ 1000000 := by
        have := e8_le (n := m) (by omega)
        rw [txt_size, labN_length (by omega)]; omega
      have h4 : Gives Try.prog 11 #[.agg (labc m c)] (.bool true) := fun w => hi ▸ refIs_any m c w hl.2
      have h2 : Gives Try.prog 9 #[.string b, .agg (labc m c)] (.tuple #[.string (b ++ txt (labN m c)), .int .i64 0]) := fun w => putLabel_yes b m c w (by omega) (by omega) hl.2 hlow
      have h5 : Gives Try.prog 12 #[.agg (labc m c)] (.string (txt (labN m c))) := fun w => refLabel_any m c w (by omega) hl.2
      by_cases hs : s.size ≤ 500
      · exact core_sr b s _ _ _ _ v p m c w hb hs (hT hs) hM hN hY (fun w => putText_short b s w (by omega) (by omega)) h2 (fun w => refText_any s w (by omega)) h4 h5 h6 h7 h8 h9 h10
      · exact core_lr b s ⟨#[]⟩ _ _ _ v p m c w hb (by omega) (by omega) (by decide) hM hN hY (fun w => calls_below (putText_long b s w (by omega) (by omega))) h2 h4 h5 h6 h7 h8 h9 h10

set_option maxRecDepth 100000 in
theorem lifted (os : Os) (started : os.Started) (H : Type) (enc : TypeId × Value → H) :
    ReturnsInHanded {} Try.checked os 3 .any (Rows.wirePutsSpec.pre6 enc Try.prog Try.f3 Rows.wirePutsRow.domain false) (Rows.wirePutsSpec.post enc Try.prog Try.f3 false true false false) := by
  refine returnsInHanded_of_change (C := Try.checked) own started (by kernel_rfl) Try.func3
    (ChangeSpec.witness6 (enc := enc) (C := Try.checked) false ⟨#[], #[.string ⟨#[]⟩, .int .u64 0, .string ⟨#[]⟩, .agg #[.int .u8 0, .int .u8 0, .int .u8 0, .int .u8 0, .int .u8 0, .int .u8 0, .int .u8 0, .int .u8 0, .int .u8 0, .int .u8 0, .int .u8 0, .int .u8 0, .int .u8 0, .int .u8 0, .int .u8 0, .int .u8 0, .int .u8 0, .int .u8 0, .int .u8 0, .int .u8 0], .agg #[.int .i64 0, .int .u64 0]], []⟩ 8 (by kernel_rfl) (by kernel_rfl) (by kernel_rfl) (by kernel_rfl)) ?_
  intro W base args ds gs before hval0 hW hcnd _
  have hval : ∀ (j : Nat) t v, Try.f3.params[j]? = some t → args[j]? = some v → Value.okWide Try.prog W .any base t v := hval0
  have hW' := hW
  obtain ⟨p, q, hA0, hV, rfl, hfz, hnd⟩ := hW
  have hA : DataW.TrodAll enc Try.prog W 0 (fun _ => true) true Try.f3.params.toList args.toList ds p := hA0
  rw [Try.params3] at hA hval
  obtain ⟨v0, vs0, d0, ds0, p0, q0, hargs, rfl, rfl, h0, r0⟩ := trodAll_cons hA
  obtain ⟨v1, vs1, d1, ds1, p1, q1, rfl, rfl, rfl, h1, r1⟩ := trodAll_cons r0
  obtain ⟨v2, vs2, d2, ds2, p2, q2, rfl, rfl, rfl, h2, r2⟩ := trodAll_cons r1
  obtain ⟨v3, vs3, d3, ds3, p3, q3, rfl, rfl, rfl, h3, r3⟩ := trodAll_cons r2
  obtain ⟨v4, vs4, d4, ds4, p4, q4, rfl, rfl, rfl, h4, r4⟩ := trodAll_cons r3
  obtain ⟨rfl, rfl, rfl⟩ := trodAll_nil r4
  obtain rfl : args = #[v0, v1, v2, v3, v4] := by cases args; simp_all
  obtain ⟨rfl, rfl⟩ := trodVars_none hV
  have k0 := h0
  have lt0 : ∀ x ∈ p0, x.block < W.heap.size := by obtain ⟨m, hm⟩ := k0; exact DataW.trod_lt m _ _ _ hm
  obtain ⟨n0, rfl, _, _, ws0⟩ := open_string Try.underlying9 (hval 0 9 v0 rfl rfl) h0
  have k1 := h1
  have lt1 : ∀ x ∈ p1, x.block < W.heap.size := by obtain ⟨m, hm⟩ := k1; exact DataW.trod_lt m _ _ _ hm
  obtain ⟨n1, ok1, rfl⟩ := open_u64 (hval 1 22 v1 rfl rfl) h1
  have k2 := h2
  have lt2 : ∀ x ∈ p2, x.block < W.heap.size := by obtain ⟨m, hm⟩ := k2; exact DataW.trod_lt m _ _ _ hm
  obtain ⟨n2, rfl, _, _, ws2⟩ := open_string Try.underlying9 (hval 2 9 v2 rfl rfl) h2
  have k3 := h3
  have lt3 : ∀ x ∈ p3, x.block < W.heap.size := by obtain ⟨m, hm⟩ := k3; exact DataW.trod_lt m _ _ _ hm
  obtain ⟨n3, _, rfl⟩ := open_id (hval 3 24 v3 rfl rfl) h3
  have k4 := h4
  have lt4 : ∀ x ∈ p4, x.block < W.heap.size := by obtain ⟨m, hm⟩ := k4; exact DataW.trod_lt m _ _ _ hm
  obtain ⟨n4, b4, ok4, rfl⟩ := open_label (hval 4 26 v4 rfl rfl) h4
  clear hA0 hval0
  refine (walk n0 n1 ok1 n2 n3 n4 b4 ok4 W ws0 ws2).mono fun e W' ⟨he, bel⟩ => ?_
  subst he
  exact ⟨_, rfl, _, _, _, [], _, [], hW', trodAll_mk1 (shut_bool Try.underlying4 _), (trodAll_cons_mk (Below.trod laidOut (by kernel_rfl) (of_decide_eq_true (by kernel_rfl)) k0 bel lt0) (trodAll_cons_mk (Below.trod laidOut (by kernel_rfl) (of_decide_eq_true (by kernel_rfl)) k1 bel lt1) (trodAll_cons_mk (Below.trod laidOut (by kernel_rfl) (of_decide_eq_true (by kernel_rfl)) k2 bel lt2) (trodAll_cons_mk (Below.trod laidOut (by kernel_rfl) (of_decide_eq_true (by kernel_rfl)) k3 bel lt3) (trodAll_cons_mk (Below.trod laidOut (by kernel_rfl) (of_decide_eq_true (by kernel_rfl)) k4 bel lt4) trodAll_mk0))))), rfl, bel.frame _, fun h => by cases h⟩

theorem proved : Rows.WirePutsSaid :=
  OpenClaim.holds_of_wide 3 Try.f3 rfl rfl rfl rfl rfl rfl rfl ⟨rfl, rfl, rfl, rfl, rfl⟩ rfl rfl rfl rfl rfl (by kernel_rfl) Try.func3 (by kernel_rfl)
    (of_decide_eq_true (by kernel_rfl)) (by unfold Func.isWrapper; first | (rw [if_pos (by decide +kernel)]; kernel_rfl) | (rw [if_neg (by decide +kernel)]; exact ⟨rfl, rfl⟩))
    (fun os started H enc _ => lifted os started H enc)

end Go.Proofs.Ytgfcdkihahfnkaa.PutsLaw
