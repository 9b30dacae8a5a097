/- IdentTurns: for every four places and number the call returns true: turned by as much, all three, nothing changes; twice a power is the next one. No condition. -/
import Derived.Test.YteljhengfeebfaaArcsLaw
namespace Go.Proofs.Yteljhengfeebfaa.TurnsLaw
open Go.ChangeShapes Go.WideShapes Go.ChangeAt Go.RowKit Go.Sort
open Go.ChangeMaps (open_string shut_string)
open ArcsLaw (Tells placed_tells sub_mod)
set_option linter.unusedVariables false


theorem sub_congr {u u' v : Nat} (h : u % M = u' % M) : sub u v % M = sub u' v % M := by rw [sub_mod, sub_mod, h]
theorem cancel {p r q : Nat} (h : (p + q) % M = (r + q) % M) : p % M = r % M := by
  rw [← sums_mod p q, ← sums_mod r q]; exact sub_congr h
theorem add_congr {p r : Nat} (q : Nat) (h : p % M = r % M) : (p + q) % M = (r + q) % M := by rw [Nat.add_mod, h, ← Nat.add_mod]
theorem sub_turn (x a c : Nat) : sub (x + c) (a + c) % M = sub x a % M := by
  refine cancel (q := a + c) ?_
  rw [back_mod, ← Nat.add_assoc]
  exact (add_congr c (back_mod x a)).symm
theorem eq_turn (a b c : Nat) : eqB (a + c) (b + c) = eqB a b := by
  unfold eqB
  rw [decide_eq_decide]
  exact ⟨cancel, add_congr c⟩
theorem open_turn (a x b c : Nat) : openB (a + c) (x + c) (b + c) = openB a x b := by
  unfold openB lessB
  rw [eq_turn, eq_turn, sub_turn, sub_turn]
theorem half_turn (a x b c : Nat) : halfB (a + c) (x + c) (b + c) = halfB a x b := by
  unfold halfB
  rw [eq_turn, open_turn]
theorem pow_lt_M (k : Nat) (h : k < 160) : 2 ^ k < M := by
  unfold M
  rw [show (256 : Nat) = 2 ^ 8 from rfl, ← Nat.pow_mul]
  exact Nat.pow_lt_pow_right (by omega) (by omega)
theorem twice (k : Nat) : 2 ^ k + 2 ^ k = 2 ^ (k + 1) := by rw [Nat.pow_succ]; omega
theorem less_next (k : Nat) (h : k < 159) : lessB (2 ^ k) (2 ^ (k + 1)) = true := by
  unfold lessB
  rw [Nat.mod_eq_of_lt (pow_lt_M k (by omega)), Nat.mod_eq_of_lt (pow_lt_M (k + 1) (by omega)), decide_eq_true_eq, ← twice k]
  have : 0 < 2 ^ k := Nat.pow_pos (by omega)
  omega

/-- four places in memory -/
theorem made4 (w : World) (a x b c : Nat) : Below w.heap.size w ((((w.alloc (.cells (row (dig 20 a)) 23)).alloc (.cells (row (dig 20 x)) 23)).alloc (.cells (row (dig 20 b)) 23)).alloc (.cells (row (dig 20 c)) 23)) ∧
    At ((((w.alloc (.cells (row (dig 20 a)) 23)).alloc (.cells (row (dig 20 x)) 23)).alloc (.cells (row (dig 20 b)) 23)).alloc (.cells (row (dig 20 c)) 23)) w.heap.size a ∧
    At ((((w.alloc (.cells (row (dig 20 a)) 23)).alloc (.cells (row (dig 20 x)) 23)).alloc (.cells (row (dig 20 b)) 23)).alloc (.cells (row (dig 20 c)) 23)) (w.heap.size + 1) x ∧
    At ((((w.alloc (.cells (row (dig 20 a)) 23)).alloc (.cells (row (dig 20 x)) 23)).alloc (.cells (row (dig 20 b)) 23)).alloc (.cells (row (dig 20 c)) 23)) (w.heap.size + 1 + 1) b ∧
    At ((((w.alloc (.cells (row (dig 20 a)) 23)).alloc (.cells (row (dig 20 x)) 23)).alloc (.cells (row (dig 20 b)) 23)).alloc (.cells (row (dig 20 c)) 23)) (w.heap.size + 1 + 1 + 1) c := by
  have h := Mem3.made w a x b
  refine ⟨h.below.alloc h.below.size _, At.alloc h.a _, At.alloc h.x _, At.alloc h.b _, ?_⟩
  have := At.new (((w.alloc (.cells (row (dig 20 a)) 23)).alloc (.cells (row (dig 20 x)) 23)).alloc (.cells (row (dig 20 b)) 23)) c
  simpa using this

/-- a call that tells a place and a code -/
def Gives (f : FuncId) (args : Array Value) (n : Nat) (code : Int) : Prop := ∀ w : World, Calls Try.prog f args w fun e w' => e = .returned (.tuple #[idv n, .int .i64 code]) ∧ Below w.heap.size w w'
theorem Gives.calls {f : FuncId} {args : Array Value} {n : Nat} {code : Int} (h : Gives f args n code) (w : World) : Calls Try.prog f args w fun e w' => e = .returned (.tuple #[idv n, .int .i64 code]) ∧ Below w.heap.size w w' := h w
theorem plus_grown {a b : Nat} {W : World} (d : Nat) (os : Array Obj) : Calls Try.prog 12 #[idv a, idv b] (grow (redrawn W d) os) fun e w'' => e = .returned (idv (a + b)) ∧ ∃ p : Regrown, w'' = grow (redrawn W p.d) p.os :=
  Calls.regrown_of (plus_any a b _)

set_option maxHeartbeats 4000000 in
set_option maxRecDepth 100000 in
theorem neg (a x b c : Nat) (k : Int) (w : World) (o h : Bool) (c1 : Tells 18 #[idv (a + c), idv (x + c), idv (b + c)] o) (c2 : Tells 20 #[idv (a + c), idv (x + c), idv (b + c)] h) (c3 : Tells 18 #[idv a, idv x, idv b] o) (c4 : Tells 20 #[idv a, idv x, idv b] h) (c9 : Gives 9 #[.int .i64 k] 0 1) (hk : k < 0) :
    Calls Try.prog 7 #[idv a, idv x, idv b, idv c, .int .i64 k] w fun e w' => e = .returned (.bool true) ∧ Below w.heap.size w w' := by
  have d1 : decide (k < 0) = true := decide_eq_true hk
  have d3 : (k == 159) = false := by rw [beq_eq_false_iff_ne]; omega
  rw [show idv a = .agg (row (dig 20 a)) from rfl, show idv x = .agg (row (dig 20 x)) from rfl, show idv b = .agg (row (dig 20 b)) from rfl, show idv c = .agg (row (dig 20 c)) from rfl]
  go_enter Try.func7, Try.ntmps7
  go_upto_region 1 with (fail)
  obtain ⟨B0, A1, A2, A3, A4⟩ := made4 w a x b c
  generalize (((w.alloc (.cells (row (dig 20 a)) 23)).alloc (.cells (row (dig 20 x)) 23)).alloc (.cells (row (dig 20 b)) 23)).alloc (.cells (row (dig 20 c)) 23) = W0 at *
  refine wp_region_quiet_below (by kernel_rfl) (by kernel_rfl) ?_
  repeat (first
    | go_big_quiet_skip
    | (go_big_quiet_want
       first
       | (first | (refine q_at _ rfl _ _ rfl (by first | with_reducible exact A1 | with_reducible exact A2 | with_reducible exact A3 | with_reducible exact A4) ?_) 
          simp only [Act.put, List.setIfInBounds_toArray, List.set_cons_succ, List.set_cons_zero]
          go_big_quiet_on)
       | (go_big_quiet_op
          first | go_big_quiet_on | go_big_quiet_call (first | with_reducible exact plus_grown _ _ | with_reducible exact c1.grown _ _))))
  refine wpQuiet_nil ?_
  intro _ hw'
  obtain ⟨⟨dq, osq⟩, hw''⟩ := hw'
  subst hw''
  have hb := below_regrown W0 dq osq
  replace A1 := A1.below hb
  replace A2 := A2.below hb
  replace A3 := A3.below hb
  replace A4 := A4.below hb
  replace B0 := B0.trans (hb.mono B0.size)
  generalize grow (redrawn W0 dq) osq = W1 at *
  clear hb
  go_upto_region 2 with (fail)
  refine wp_region_quiet_below (by kernel_rfl) (by kernel_rfl) ?_
  repeat (first
    | go_big_quiet_skip
    | (go_big_quiet_want
       first
       | (first | (refine q_at _ rfl _ _ rfl (by first | with_reducible exact A1 | with_reducible exact A2 | with_reducible exact A3 | with_reducible exact A4) ?_) 
          simp only [Act.put, List.setIfInBounds_toArray, List.set_cons_succ, List.set_cons_zero]
          go_big_quiet_on)
       | (go_big_quiet_op
          first | go_big_quiet_on | go_big_quiet_call (first | with_reducible exact plus_grown _ _ | with_reducible exact c2.grown _ _))))
  refine wpQuiet_nil ?_
  intro _ hw'
  obtain ⟨⟨dq, osq⟩, hw''⟩ := hw'
  subst hw''
  have hb := below_regrown W1 dq osq
  replace A1 := A1.below hb
  replace A2 := A2.below hb
  replace A3 := A3.below hb
  replace A4 := A4.below hb
  replace B0 := B0.trans (hb.mono B0.size)
  generalize grow (redrawn W1 dq) osq = W2 at *
  clear hb
  go_upto_region 3 with (fail)
  go_upto_region 4 with (first | (go_at_call 9; with_reducible refine (c9.calls _).mono ?_; rintro e w3 ⟨rfl, hb⟩) | (refine wpList_store_new rfl rfl _ _ rfl _ rfl rfl ?_))
  replace A1 := (A1.below hb).alloc (.cells (row (dig 20 (0))) 23)
  replace A2 := (A2.below hb).alloc (.cells (row (dig 20 (0))) 23)
  replace A3 := (A3.below hb).alloc (.cells (row (dig 20 (0))) 23)
  replace A4 := (A4.below hb).alloc (.cells (row (dig 20 (0))) 23)
  have A5 := At.new w3 (0)
  replace B0 := B0.trans ((hb.mono B0.size).trans ((Below.refl w.heap.size w3).alloc (Nat.le_trans B0.size hb.size) (.cells (row (dig 20 (0))) 23)))
  clear hb
  generalize w3.heap.size = gw3 at *
  generalize w3.alloc _ = Ww3 at *
  go_upto_region 5 with (fail)
  go_wp2_with (first | (go_at_call 11; with_reducible refine (placed_tells.calls _).mono ?_; rintro e w1 ⟨rfl, hb⟩; replace A1 := A1.below hb; replace A2 := A2.below hb; replace A3 := A3.below hb; replace A4 := A4.below hb; replace A5 := A5.below hb; replace B0 := B0.trans (hb.mono B0.size); clear hb) | (go_at_call 18; with_reducible refine (c3.calls _).mono ?_; rintro e w1 ⟨rfl, hb⟩; replace A1 := A1.below hb; replace A2 := A2.below hb; replace A3 := A3.below hb; replace A4 := A4.below hb; replace A5 := A5.below hb; replace B0 := B0.trans (hb.mono B0.size); clear hb) | (go_at_call 20; with_reducible refine (c4.calls _).mono ?_; rintro e w1 ⟨rfl, hb⟩; replace A1 := A1.below hb; replace A2 := A2.below hb; replace A3 := A3.below hb; replace A4 := A4.below hb; replace A5 := A5.below hb; replace B0 := B0.trans (hb.mono B0.size); clear hb) | (refine p_load rfl _ rfl _ rfl _ (by first | with_reducible exact A1 | with_reducible exact A2 | with_reducible exact A3 | with_reducible exact A4 | with_reducible exact A5) ?_) | (go_guarded; refine o_load _ rfl _ rfl _ (by first | with_reducible exact A1 | with_reducible exact A2 | with_reducible exact A3 | with_reducible exact A4 | with_reducible exact A5) ?_; simp only [Act.put, List.setIfInBounds_toArray, List.set_cons_succ, List.set_cons_zero]))
  go_ret
  exact ⟨rfl, B0⟩
set_option maxHeartbeats 4000000 in
set_option maxRecDepth 100000 in
theorem big (a x b c : Nat) (k : Int) (w : World) (o h : Bool) (c1 : Tells 18 #[idv (a + c), idv (x + c), idv (b + c)] o) (c2 : Tells 20 #[idv (a + c), idv (x + c), idv (b + c)] h) (c3 : Tells 18 #[idv a, idv x, idv b] o) (c4 : Tells 20 #[idv a, idv x, idv b] h) (c9 : Gives 9 #[.int .i64 k] 0 1) (hk : 160 ≤ k) :
    Calls Try.prog 7 #[idv a, idv x, idv b, idv c, .int .i64 k] w fun e w' => e = .returned (.bool true) ∧ Below w.heap.size w w' := by
  have d1 : decide (k < 0) = false := decide_eq_false (by omega)
  have d2 : decide (159 ≤ k) = true := decide_eq_true (by omega)
  have d3 : (k == 159) = false := by rw [beq_eq_false_iff_ne]; omega
  rw [show idv a = .agg (row (dig 20 a)) from rfl, show idv x = .agg (row (dig 20 x)) from rfl, show idv b = .agg (row (dig 20 b)) from rfl, show idv c = .agg (row (dig 20 c)) from rfl]
  go_enter Try.func7, Try.ntmps7
  go_upto_region 1 with (fail)
  obtain ⟨B0, A1, A2, A3, A4⟩ := made4 w a x b c
  generalize (((w.alloc (.cells (row (dig 20 a)) 23)).alloc (.cells (row (dig 20 x)) 23)).alloc (.cells (row (dig 20 b)) 23)).alloc (.cells (row (dig 20 c)) 23) = W0 at *
  refine wp_region_quiet_below (by kernel_rfl) (by kernel_rfl) ?_
  repeat (first
    | go_big_quiet_skip
    | (go_big_quiet_want
       first
       | (first | (refine q_at _ rfl _ _ rfl (by first | with_reducible exact A1 | with_reducible exact A2 | with_reducible exact A3 | with_reducible exact A4) ?_) 
          simp only [Act.put, List.setIfInBounds_toArray, List.set_cons_succ, List.set_cons_zero]
          go_big_quiet_on)
       | (go_big_quiet_op
          first | go_big_quiet_on | go_big_quiet_call (first | with_reducible exact plus_grown _ _ | with_reducible exact c1.grown _ _))))
  refine wpQuiet_nil ?_
  intro _ hw'
  obtain ⟨⟨dq, osq⟩, hw''⟩ := hw'
  subst hw''
  have hb := below_regrown W0 dq osq
  replace A1 := A1.below hb
  replace A2 := A2.below hb
  replace A3 := A3.below hb
  replace A4 := A4.below hb
  replace B0 := B0.trans (hb.mono B0.size)
  generalize grow (redrawn W0 dq) osq = W1 at *
  clear hb
  go_upto_region 2 with (fail)
  refine wp_region_quiet_below (by kernel_rfl) (by kernel_rfl) ?_
  repeat (first
    | go_big_quiet_skip
    | (go_big_quiet_want
       first
       | (first | (refine q_at _ rfl _ _ rfl (by first | with_reducible exact A1 | with_reducible exact A2 | with_reducible exact A3 | with_reducible exact A4) ?_) 
          simp only [Act.put, List.setIfInBounds_toArray, List.set_cons_succ, List.set_cons_zero]
          go_big_quiet_on)
       | (go_big_quiet_op
          first | go_big_quiet_on | go_big_quiet_call (first | with_reducible exact plus_grown _ _ | with_reducible exact c2.grown _ _))))
  refine wpQuiet_nil ?_
  intro _ hw'
  obtain ⟨⟨dq, osq⟩, hw''⟩ := hw'
  subst hw''
  have hb := below_regrown W1 dq osq
  replace A1 := A1.below hb
  replace A2 := A2.below hb
  replace A3 := A3.below hb
  replace A4 := A4.below hb
  replace B0 := B0.trans (hb.mono B0.size)
  generalize grow (redrawn W1 dq) osq = W2 at *
  clear hb
  go_upto_region 3 with (fail)
  go_upto_region 4 with (first | (go_at_call 9; with_reducible refine (c9.calls _).mono ?_; rintro e w3 ⟨rfl, hb⟩) | (refine wpList_store_new rfl rfl _ _ rfl _ rfl rfl ?_))
  replace A1 := (A1.below hb).alloc (.cells (row (dig 20 (0))) 23)
  replace A2 := (A2.below hb).alloc (.cells (row (dig 20 (0))) 23)
  replace A3 := (A3.below hb).alloc (.cells (row (dig 20 (0))) 23)
  replace A4 := (A4.below hb).alloc (.cells (row (dig 20 (0))) 23)
  have A5 := At.new w3 (0)
  replace B0 := B0.trans ((hb.mono B0.size).trans ((Below.refl w.heap.size w3).alloc (Nat.le_trans B0.size hb.size) (.cells (row (dig 20 (0))) 23)))
  clear hb
  generalize w3.heap.size = gw3 at *
  generalize w3.alloc _ = Ww3 at *
  go_upto_region 5 with (fail)
  go_wp2_with (first | (go_at_call 11; with_reducible refine (placed_tells.calls _).mono ?_; rintro e w1 ⟨rfl, hb⟩; replace A1 := A1.below hb; replace A2 := A2.below hb; replace A3 := A3.below hb; replace A4 := A4.below hb; replace A5 := A5.below hb; replace B0 := B0.trans (hb.mono B0.size); clear hb) | (go_at_call 18; with_reducible refine (c3.calls _).mono ?_; rintro e w1 ⟨rfl, hb⟩; replace A1 := A1.below hb; replace A2 := A2.below hb; replace A3 := A3.below hb; replace A4 := A4.below hb; replace A5 := A5.below hb; replace B0 := B0.trans (hb.mono B0.size); clear hb) | (go_at_call 20; with_reducible refine (c4.calls _).mono ?_; rintro e w1 ⟨rfl, hb⟩; replace A1 := A1.below hb; replace A2 := A2.below hb; replace A3 := A3.below hb; replace A4 := A4.below hb; replace A5 := A5.below hb; replace B0 := B0.trans (hb.mono B0.size); clear hb) | (refine p_load rfl _ rfl _ rfl _ (by first | with_reducible exact A1 | with_reducible exact A2 | with_reducible exact A3 | with_reducible exact A4 | with_reducible exact A5) ?_) | (go_guarded; refine o_load _ rfl _ rfl _ (by first | with_reducible exact A1 | with_reducible exact A2 | with_reducible exact A3 | with_reducible exact A4 | with_reducible exact A5) ?_; simp only [Act.put, List.setIfInBounds_toArray, List.set_cons_succ, List.set_cons_zero]))
  go_ret
  exact ⟨rfl, B0⟩
set_option maxHeartbeats 4000000 in
set_option maxRecDepth 100000 in
theorem edge (a x b c n : Nat) (w : World) (o h : Bool) (c1 : Tells 18 #[idv (a + c), idv (x + c), idv (b + c)] o) (c2 : Tells 20 #[idv (a + c), idv (x + c), idv (b + c)] h) (c3 : Tells 18 #[idv a, idv x, idv b] o) (c4 : Tells 20 #[idv a, idv x, idv b] h) (c9 : Gives 9 #[.int .i64 159] n 0) :
    Calls Try.prog 7 #[idv a, idv x, idv b, idv c, .int .i64 159] w fun e w' => e = .returned (.bool true) ∧ Below w.heap.size w w' := by
  rw [show idv a = .agg (row (dig 20 a)) from rfl, show idv x = .agg (row (dig 20 x)) from rfl, show idv b = .agg (row (dig 20 b)) from rfl, show idv c = .agg (row (dig 20 c)) from rfl]
  go_enter Try.func7, Try.ntmps7
  go_upto_region 1 with (fail)
  obtain ⟨B0, A1, A2, A3, A4⟩ := made4 w a x b c
  generalize (((w.alloc (.cells (row (dig 20 a)) 23)).alloc (.cells (row (dig 20 x)) 23)).alloc (.cells (row (dig 20 b)) 23)).alloc (.cells (row (dig 20 c)) 23) = W0 at *
  refine wp_region_quiet_below (by kernel_rfl) (by kernel_rfl) ?_
  repeat (first
    | go_big_quiet_skip
    | (go_big_quiet_want
       first
       | (first | (refine q_at _ rfl _ _ rfl (by first | with_reducible exact A1 | with_reducible exact A2 | with_reducible exact A3 | with_reducible exact A4) ?_) 
          simp only [Act.put, List.setIfInBounds_toArray, List.set_cons_succ, List.set_cons_zero]
          go_big_quiet_on)
       | (go_big_quiet_op
          first | go_big_quiet_on | go_big_quiet_call (first | with_reducible exact plus_grown _ _ | with_reducible exact c1.grown _ _))))
  refine wpQuiet_nil ?_
  intro _ hw'
  obtain ⟨⟨dq, osq⟩, hw''⟩ := hw'
  subst hw''
  have hb := below_regrown W0 dq osq
  replace A1 := A1.below hb
  replace A2 := A2.below hb
  replace A3 := A3.below hb
  replace A4 := A4.below hb
  replace B0 := B0.trans (hb.mono B0.size)
  generalize grow (redrawn W0 dq) osq = W1 at *
  clear hb
  go_upto_region 2 with (fail)
  refine wp_region_quiet_below (by kernel_rfl) (by kernel_rfl) ?_
  repeat (first
    | go_big_quiet_skip
    | (go_big_quiet_want
       first
       | (first | (refine q_at _ rfl _ _ rfl (by first | with_reducible exact A1 | with_reducible exact A2 | with_reducible exact A3 | with_reducible exact A4) ?_) 
          simp only [Act.put, List.setIfInBounds_toArray, List.set_cons_succ, List.set_cons_zero]
          go_big_quiet_on)
       | (go_big_quiet_op
          first | go_big_quiet_on | go_big_quiet_call (first | with_reducible exact plus_grown _ _ | with_reducible exact c2.grown _ _))))
  refine wpQuiet_nil ?_
  intro _ hw'
  obtain ⟨⟨dq, osq⟩, hw''⟩ := hw'
  subst hw''
  have hb := below_regrown W1 dq osq
  replace A1 := A1.below hb
  replace A2 := A2.below hb
  replace A3 := A3.below hb
  replace A4 := A4.below hb
  replace B0 := B0.trans (hb.mono B0.size)
  generalize grow (redrawn W1 dq) osq = W2 at *
  clear hb
  go_upto_region 3 with (fail)
  go_upto_region 4 with (first | (go_at_call 9; with_reducible refine (c9.calls _).mono ?_; rintro e w3 ⟨rfl, hb⟩) | (refine wpList_store_new rfl rfl _ _ rfl _ rfl rfl ?_))
  replace A1 := (A1.below hb).alloc (.cells (row (dig 20 (n))) 23)
  replace A2 := (A2.below hb).alloc (.cells (row (dig 20 (n))) 23)
  replace A3 := (A3.below hb).alloc (.cells (row (dig 20 (n))) 23)
  replace A4 := (A4.below hb).alloc (.cells (row (dig 20 (n))) 23)
  have A5 := At.new w3 (n)
  replace B0 := B0.trans ((hb.mono B0.size).trans ((Below.refl w.heap.size w3).alloc (Nat.le_trans B0.size hb.size) (.cells (row (dig 20 (n))) 23)))
  clear hb
  generalize w3.heap.size = gw3 at *
  generalize w3.alloc _ = Ww3 at *
  go_upto_region 5 with (fail)
  go_wp2_with (first | (go_at_call 11; with_reducible refine (placed_tells.calls _).mono ?_; rintro e w1 ⟨rfl, hb⟩; replace A1 := A1.below hb; replace A2 := A2.below hb; replace A3 := A3.below hb; replace A4 := A4.below hb; replace A5 := A5.below hb; replace B0 := B0.trans (hb.mono B0.size); clear hb) | (go_at_call 18; with_reducible refine (c3.calls _).mono ?_; rintro e w1 ⟨rfl, hb⟩; replace A1 := A1.below hb; replace A2 := A2.below hb; replace A3 := A3.below hb; replace A4 := A4.below hb; replace A5 := A5.below hb; replace B0 := B0.trans (hb.mono B0.size); clear hb) | (go_at_call 20; with_reducible refine (c4.calls _).mono ?_; rintro e w1 ⟨rfl, hb⟩; replace A1 := A1.below hb; replace A2 := A2.below hb; replace A3 := A3.below hb; replace A4 := A4.below hb; replace A5 := A5.below hb; replace B0 := B0.trans (hb.mono B0.size); clear hb) | (refine p_load rfl _ rfl _ rfl _ (by first | with_reducible exact A1 | with_reducible exact A2 | with_reducible exact A3 | with_reducible exact A4 | with_reducible exact A5) ?_) | (go_guarded; refine o_load _ rfl _ rfl _ (by first | with_reducible exact A1 | with_reducible exact A2 | with_reducible exact A3 | with_reducible exact A4 | with_reducible exact A5) ?_; simp only [Act.put, List.setIfInBounds_toArray, List.set_cons_succ, List.set_cons_zero]))
  go_ret
  exact ⟨rfl, B0⟩
set_option maxHeartbeats 4000000 in
set_option maxRecDepth 100000 in
theorem inner (a x b c p q k : Nat) (w : World) (o h : Bool) (c1 : Tells 18 #[idv (a + c), idv (x + c), idv (b + c)] o) (c2 : Tells 20 #[idv (a + c), idv (x + c), idv (b + c)] h) (c3 : Tells 18 #[idv a, idv x, idv b] o) (c4 : Tells 20 #[idv a, idv x, idv b] h) (c9 : Gives 9 #[.int .i64 (k : Int)] p 0) (c10 : Gives 9 #[.int .i64 ((k : Int) + 1)] q 0) (hk : k < 159) (he : eqB (p + p) q = true) (c16 : Tells 16 #[idv p, idv q] true) :
    Calls Try.prog 7 #[idv a, idv x, idv b, idv c, .int .i64 (k : Int)] w fun e w' => e = .returned (.bool true) ∧ Below w.heap.size w w' := by
  have HE := Lib.hid he
  clear he
  have d1 : decide ((k : Int) < 0) = false := decide_eq_false (by omega)
  have d2 : decide (159 ≤ (k : Int)) = false := decide_eq_false (by omega)
  rw [show idv a = .agg (row (dig 20 a)) from rfl, show idv x = .agg (row (dig 20 x)) from rfl, show idv b = .agg (row (dig 20 b)) from rfl, show idv c = .agg (row (dig 20 c)) from rfl]
  go_enter Try.func7, Try.ntmps7
  go_upto_region 1 with (fail)
  obtain ⟨B0, A1, A2, A3, A4⟩ := made4 w a x b c
  generalize (((w.alloc (.cells (row (dig 20 a)) 23)).alloc (.cells (row (dig 20 x)) 23)).alloc (.cells (row (dig 20 b)) 23)).alloc (.cells (row (dig 20 c)) 23) = W0 at *
  refine wp_region_quiet_below (by kernel_rfl) (by kernel_rfl) ?_
  repeat (first
    | go_big_quiet_skip
    | (go_big_quiet_want
       first
       | (first | (refine q_at _ rfl _ _ rfl (by first | with_reducible exact A1 | with_reducible exact A2 | with_reducible exact A3 | with_reducible exact A4) ?_) 
          simp only [Act.put, List.setIfInBounds_toArray, List.set_cons_succ, List.set_cons_zero]
          go_big_quiet_on)
       | (go_big_quiet_op
          first | go_big_quiet_on | go_big_quiet_call (first | with_reducible exact plus_grown _ _ | with_reducible exact c1.grown _ _))))
  refine wpQuiet_nil ?_
  intro _ hw'
  obtain ⟨⟨dq, osq⟩, hw''⟩ := hw'
  subst hw''
  have hb := below_regrown W0 dq osq
  replace A1 := A1.below hb
  replace A2 := A2.below hb
  replace A3 := A3.below hb
  replace A4 := A4.below hb
  replace B0 := B0.trans (hb.mono B0.size)
  generalize grow (redrawn W0 dq) osq = W1 at *
  clear hb
  go_upto_region 2 with (fail)
  refine wp_region_quiet_below (by kernel_rfl) (by kernel_rfl) ?_
  repeat (first
    | go_big_quiet_skip
    | (go_big_quiet_want
       first
       | (first | (refine q_at _ rfl _ _ rfl (by first | with_reducible exact A1 | with_reducible exact A2 | with_reducible exact A3 | with_reducible exact A4) ?_) 
          simp only [Act.put, List.setIfInBounds_toArray, List.set_cons_succ, List.set_cons_zero]
          go_big_quiet_on)
       | (go_big_quiet_op
          first | go_big_quiet_on | go_big_quiet_call (first | with_reducible exact plus_grown _ _ | with_reducible exact c2.grown _ _))))
  refine wpQuiet_nil ?_
  intro _ hw'
  obtain ⟨⟨dq, osq⟩, hw''⟩ := hw'
  subst hw''
  have hb := below_regrown W1 dq osq
  replace A1 := A1.below hb
  replace A2 := A2.below hb
  replace A3 := A3.below hb
  replace A4 := A4.below hb
  replace B0 := B0.trans (hb.mono B0.size)
  generalize grow (redrawn W1 dq) osq = W2 at *
  clear hb
  go_upto_region 3 with (fail)
  go_upto_region 4 with (first | (go_at_call 9; with_reducible refine (c9.calls _).mono ?_; rintro e w3 ⟨rfl, hb⟩) | (refine wpList_store_new rfl rfl _ _ rfl _ rfl rfl ?_))
  replace A1 := (A1.below hb).alloc (.cells (row (dig 20 (p))) 23)
  replace A2 := (A2.below hb).alloc (.cells (row (dig 20 (p))) 23)
  replace A3 := (A3.below hb).alloc (.cells (row (dig 20 (p))) 23)
  replace A4 := (A4.below hb).alloc (.cells (row (dig 20 (p))) 23)
  have A5 := At.new w3 (p)
  replace B0 := B0.trans ((hb.mono B0.size).trans ((Below.refl w.heap.size w3).alloc (Nat.le_trans B0.size hb.size) (.cells (row (dig 20 (p))) 23)))
  clear hb
  generalize w3.heap.size = gw3 at *
  generalize w3.alloc _ = Ww3 at *
  go_upto_region 6 with (fail)
  go_upto_region 7 with (first | (go_at_call 9; with_reducible refine (c10.calls _).mono ?_; rintro e w4 ⟨rfl, hb⟩) | (refine wpList_store_new rfl rfl _ _ rfl _ rfl rfl ?_))
  replace A1 := (A1.below hb).alloc (.cells (row (dig 20 (q))) 23)
  replace A2 := (A2.below hb).alloc (.cells (row (dig 20 (q))) 23)
  replace A3 := (A3.below hb).alloc (.cells (row (dig 20 (q))) 23)
  replace A4 := (A4.below hb).alloc (.cells (row (dig 20 (q))) 23)
  replace A5 := (A5.below hb).alloc (.cells (row (dig 20 (q))) 23)
  have A6 := At.new w4 (q)
  replace B0 := B0.trans ((hb.mono B0.size).trans ((Below.refl w.heap.size w4).alloc (Nat.le_trans B0.size hb.size) (.cells (row (dig 20 (q))) 23)))
  clear hb
  generalize w4.heap.size = gw4 at *
  generalize w4.alloc _ = Ww4 at *
  refine wp_region_quiet_below (by kernel_rfl) (by kernel_rfl) ?_
  repeat (first
    | go_big_quiet_skip
    | (go_big_quiet_want
       first
       | (first | (refine q_at _ rfl _ _ rfl (by first | with_reducible exact A1 | with_reducible exact A2 | with_reducible exact A3 | with_reducible exact A4 | with_reducible exact A5 | with_reducible exact A6) ?_) | (refine q_eql _ _ rfl _ _ rfl rfl HE.out ?_)
          simp only [Act.put, List.setIfInBounds_toArray, List.set_cons_succ, List.set_cons_zero]
          go_big_quiet_on)
       | (go_big_quiet_op
          first | go_big_quiet_on | go_big_quiet_call (first | with_reducible exact placed_tells.grown _ _ | with_reducible exact c3.grown _ _ | with_reducible exact c4.grown _ _ | with_reducible exact c16.grown _ _ | with_reducible exact plus_grown _ _))))
  refine wpQuiet_nil ?_
  intro _ hw'
  obtain ⟨⟨dq, osq⟩, hw''⟩ := hw'
  subst hw''
  have hb := below_regrown Ww4 dq osq
  replace A1 := A1.below hb
  replace A2 := A2.below hb
  replace A3 := A3.below hb
  replace A4 := A4.below hb
  replace A5 := A5.below hb
  replace A6 := A6.below hb
  replace B0 := B0.trans (hb.mono B0.size)
  generalize grow (redrawn Ww4 dq) osq = W5 at *
  clear hb
  go_wp2
  go_ret
  exact ⟨rfl, B0⟩

theorem walk (a x b c : Nat) (k : Int) (w : World) : Calls Try.prog 7 #[idv a, idv x, idv b, idv c, .int .i64 k] w fun e w' => e = .returned (.bool true) ∧ Below w.heap.size w w' := by
  have c1 : Tells 18 #[idv (a + c), idv (x + c), idv (b + c)] (openB a x b) := fun w => open_turn a x b c ▸ open_all _ _ _ w
  have c2 : Tells 20 #[idv (a + c), idv (x + c), idv (b + c)] (halfB a x b) := fun w => half_turn a x b c ▸ half_all _ _ _ w
  have c3 : Tells 18 #[idv a, idv x, idv b] (openB a x b) := open_all a x b
  have c4 : Tells 20 #[idv a, idv x, idv b] (halfB a x b) := half_all a x b
  rcases Int.lt_or_le k 0 with h | h
  · exact neg a x b c k w _ _ c1 c2 c3 c4 (fun w => power_no k w (.inl h)) h
  · obtain ⟨n, rfl⟩ := Int.eq_ofNat_of_zero_le h
    rcases Nat.lt_or_ge n 159 with h1 | h1
    · exact inner a x b c (2 ^ n) (2 ^ (n + 1)) n w _ _ c1 c2 c3 c4 (fun w => power_yes n w (by omega)) (fun w => power_yes (n + 1) w (by omega)) h1 (eqB_of (by rw [twice])) (fun w => less_next n h1 ▸ less_all _ _ w)
    · rcases Nat.lt_or_ge n 160 with h2 | h2
      · obtain rfl : n = 159 := by omega
        exact edge a x b c (2 ^ 159) w _ _ c1 c2 c3 c4 (fun w => power_yes 159 w (by omega))
      · exact big a x b c n w _ _ c1 c2 c3 c4 (fun w => power_no n w (.inr (by omega))) (by omega)

set_option maxRecDepth 100000 in
theorem lifted (os : Os) (started : os.Started) (H : Type) (enc : TypeId × Value → H) :
    ReturnsInHanded {} Try.checked os 7 .any (Rows.identTurnsSpec.pre6 enc Try.prog Try.f7 Rows.identTurnsRow.domain false) (Rows.identTurnsSpec.post enc Try.prog Try.f7 false true false false) := by
  refine returnsInHanded_of_change (C := Try.checked) own started (by kernel_rfl) Try.func7
    (ChangeSpec.witness6 (enc := enc) (C := Try.checked) false ⟨#[], #[.agg #[.int .u8 0, .int .u8 0, .int .u8 0, .int .u8 0, .int .u8 0, .int .u8 0, .int .u8 0, .int .u8 0, .int .u8 0, .int .u8 0, .int .u8 0, .int .u8 0, .int .u8 0, .int .u8 0, .int .u8 0, .int .u8 0, .int .u8 0, .int .u8 0, .int .u8 0, .int .u8 0], .agg #[.int .u8 0, .int .u8 0, .int .u8 0, .int .u8 0, .int .u8 0, .int .u8 0, .int .u8 0, .int .u8 0, .int .u8 0, .int .u8 0, .int .u8 0, .int .u8 0, .int .u8 0, .int .u8 0, .int .u8 0, .int .u8 0, .int .u8 0, .int .u8 0, .int .u8 0, .int .u8 0], .agg #[.int .u8 0, .int .u8 0, .int .u8 0, .int .u8 0, .int .u8 0, .int .u8 0, .int .u8 0, .int .u8 0, .int .u8 0, .int .u8 0, .int .u8 0, .int .u8 0, .int .u8 0, .int .u8 0, .int .u8 0, .int .u8 0, .int .u8 0, .int .u8 0, .int .u8 0, .int .u8 0], .agg #[.int .u8 0, .int .u8 0, .int .u8 0, .int .u8 0, .int .u8 0, .int .u8 0, .int .u8 0, .int .u8 0, .int .u8 0, .int .u8 0, .int .u8 0, .int .u8 0, .int .u8 0, .int .u8 0, .int .u8 0, .int .u8 0, .int .u8 0, .int .u8 0, .int .u8 0, .int .u8 0], .int .i64 0], []⟩ 8 (by kernel_rfl) (by kernel_rfl) (by kernel_rfl) (by kernel_rfl)) ?_
  intro W base args ds gs before hval0 hW hcnd _
  have hval : ∀ (j : Nat) t v, Try.f7.params[j]? = some t → args[j]? = some v → Value.okWide Try.prog W .any base t v := hval0
  have hW' := hW
  obtain ⟨p, q, hA0, hV, rfl, hfz, hnd⟩ := hW
  have hA : DataW.TrodAll enc Try.prog W 0 (fun _ => true) true Try.f7.params.toList args.toList ds p := hA0
  rw [Try.params7] at hA hval
  obtain ⟨v0, vs0, d0, ds0, p0, q0, hargs, rfl, rfl, h0, r0⟩ := trodAll_cons hA
  obtain ⟨v1, vs1, d1, ds1, p1, q1, rfl, rfl, rfl, h1, r1⟩ := trodAll_cons r0
  obtain ⟨v2, vs2, d2, ds2, p2, q2, rfl, rfl, rfl, h2, r2⟩ := trodAll_cons r1
  obtain ⟨v3, vs3, d3, ds3, p3, q3, rfl, rfl, rfl, h3, r3⟩ := trodAll_cons r2
  obtain ⟨v4, vs4, d4, ds4, p4, q4, rfl, rfl, rfl, h4, r4⟩ := trodAll_cons r3
  obtain ⟨rfl, rfl, rfl⟩ := trodAll_nil r4
  obtain rfl : args = #[v0, v1, v2, v3, v4] := by cases args; simp_all
  obtain ⟨rfl, rfl⟩ := trodVars_none hV
  have k0 := h0
  have lt0 : ∀ x ∈ p0, x.block < W.heap.size := by obtain ⟨m, hm⟩ := k0; exact DataW.trod_lt m _ _ _ hm
  obtain ⟨n0, _, rfl⟩ := open_id (hval 0 23 v0 rfl rfl) h0
  have k1 := h1
  have lt1 : ∀ x ∈ p1, x.block < W.heap.size := by obtain ⟨m, hm⟩ := k1; exact DataW.trod_lt m _ _ _ hm
  obtain ⟨n1, _, rfl⟩ := open_id (hval 1 23 v1 rfl rfl) h1
  have k2 := h2
  have lt2 : ∀ x ∈ p2, x.block < W.heap.size := by obtain ⟨m, hm⟩ := k2; exact DataW.trod_lt m _ _ _ hm
  obtain ⟨n2, _, rfl⟩ := open_id (hval 2 23 v2 rfl rfl) h2
  have k3 := h3
  have lt3 : ∀ x ∈ p3, x.block < W.heap.size := by obtain ⟨m, hm⟩ := k3; exact DataW.trod_lt m _ _ _ hm
  obtain ⟨n3, _, rfl⟩ := open_id (hval 3 23 v3 rfl rfl) h3
  have k4 := h4
  have lt4 : ∀ x ∈ p4, x.block < W.heap.size := by obtain ⟨m, hm⟩ := k4; exact DataW.trod_lt m _ _ _ hm
  obtain ⟨n4, rfl, _, _, wf4⟩ := open_int Try.underlying3 (hval 4 3 v4 rfl rfl) h4
  clear hA0 hval0
  refine (walk n0 n1 n2 n3 n4 W).mono fun e W' ⟨he, bel⟩ => ?_
  subst he
  exact ⟨_, rfl, _, _, _, [], _, [], hW', trodAll_mk1 (shut_bool Try.underlying4 _), (trodAll_cons_mk (Below.trod laidOut (by kernel_rfl) (of_decide_eq_true (by kernel_rfl)) k0 bel lt0) (trodAll_cons_mk (Below.trod laidOut (by kernel_rfl) (of_decide_eq_true (by kernel_rfl)) k1 bel lt1) (trodAll_cons_mk (Below.trod laidOut (by kernel_rfl) (of_decide_eq_true (by kernel_rfl)) k2 bel lt2) (trodAll_cons_mk (Below.trod laidOut (by kernel_rfl) (of_decide_eq_true (by kernel_rfl)) k3 bel lt3) (trodAll_cons_mk (Below.trod laidOut (by kernel_rfl) (of_decide_eq_true (by kernel_rfl)) k4 bel lt4) trodAll_mk0))))), rfl, bel.frame _, fun h => by cases h⟩

theorem proved : Rows.IdentTurnsSaid :=
  OpenClaim.holds_of_wide 7 Try.f7 rfl rfl rfl rfl rfl rfl rfl ⟨rfl, rfl, rfl, rfl, rfl⟩ rfl rfl rfl rfl rfl (by kernel_rfl) Try.func7 (by kernel_rfl)
    (of_decide_eq_true (by kernel_rfl)) (by unfold Func.isWrapper; first | (rw [if_pos (by decide +kernel)]; kernel_rfl) | (rw [if_neg (by decide +kernel)]; exact ⟨rfl, rfl⟩))
    (fun os started H enc _ => lifted os started H enc)
end Go.Proofs.Yteljhengfeebfaa.TurnsLaw
