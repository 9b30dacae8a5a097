/- IdentArcs: for every three places the call returns true: of three places, no two the same, the third one is in just one of the two arcs between the others; an end is in none, but closed in one. No condition. -/
import Derived.Test.YteljhengfeebfaaQ
namespace Go.Proofs.Yteljhengfeebfaa.ArcsLaw
open Go.ChangeShapes Go.WideShapes Go.ChangeAt Go.RowKit Go.Sort
open Go.ChangeMaps (open_string shut_string)
set_option linter.unusedVariables false


theorem sub_mod (x a : Nat) : sub x a % M = if a % M ≤ x % M then x % M - a % M else x % M + M - a % M := by
  have hp := M_pos
  have ha := Nat.mod_lt a hp
  have hx := Nat.mod_lt x hp
  have e : sub x a % M = (x % M + M - a % M) % M := by
    unfold sub
    have h := Nat.div_add_mod x M
    rw [show x + M - a % M = (x % M + M - a % M) + M * (x / M) by omega, Nat.add_mul_mod_self_left]
  rw [e]
  split
  · rw [show x % M + M - a % M = (x % M - a % M) + M by omega, Nat.add_mod_right, Nat.mod_eq_of_lt (by omega)]
  · exact Nat.mod_eq_of_lt (by omega)
theorem eqB_iff {a b : Nat} {r : Bool} : eqB a b = r ↔ (r = true ↔ a % M = b % M) := by
  unfold eqB
  cases r
  · simp
  · simp
theorem eqB_comm (a b : Nat) : eqB a b = eqB b a := by
  unfold eqB; rw [decide_eq_decide]; exact ⟨Eq.symm, Eq.symm⟩
theorem open_end1 (a b : Nat) : openB a a b = false := by
  unfold openB; rw [eqB_self]; rfl
theorem less_self (a : Nat) : lessB a a = false := by unfold lessB; simp
theorem open_end2 (a b : Nat) : openB a b b = false := by
  unfold openB; rw [less_self, eqB_comm b a]
  cases eqB a b <;> rfl
theorem half_end (a b : Nat) : halfB a b b = true := by
  unfold halfB; rw [eqB_self]; rfl
theorem open_ne {a x b : Nat} (h1 : eqB a x = false) (h2 : eqB a b = false) : openB a x b = decide (sub x a % M < sub b a % M) := by
  unfold openB lessB; rw [eqB_comm x a, h1, h2]; simp
theorem open_eq {a x b : Nat} (h : eqB a b = true) : openB a x b = !eqB a x := by
  unfold openB; rw [h, eqB_comm x a]; simp
theorem half_ne {a x b : Nat} (h : eqB x b = false) : halfB a x b = openB a x b := by unfold halfB; rw [h]; rfl
theorem half_eq {a x b : Nat} (h : eqB a b = true) : halfB a x b = true := by
  unfold halfB; rw [open_eq h]
  have : eqB x b = eqB a x := by
    unfold eqB at *
    rw [decide_eq_true_eq] at h
    rw [decide_eq_decide]
    omega
  rw [this]
  cases eqB a x <;> rfl
theorem arcs_other {a x b : Nat} (h1 : eqB a x = false) (h2 : eqB x b = false) (h3 : eqB a b = false) : openB b x a = !openB a x b := by
  rw [open_ne h1 h3, open_ne (by rw [eqB_comm]; exact h2) (by rw [eqB_comm]; exact h3)]
  rw [eqB_iff] at h1 h2 h3
  simp only [Bool.false_eq_true, false_iff] at h1 h2 h3
  have hp := M_pos
  have ha := Nat.mod_lt a hp
  have hx := Nat.mod_lt x hp
  have hb := Nat.mod_lt b hp
  rw [sub_mod, sub_mod, sub_mod, sub_mod, ← decide_not, decide_eq_decide]
  repeat' split
  all_goals omega
theorem arcs_turned {a x b : Nat} (h1 : eqB a x = false) (h2 : eqB x b = false) (h3 : eqB a b = false) : openB x b a = openB a x b := by
  rw [open_ne h1 h3, open_ne h2 (by rw [eqB_comm]; exact h1)]
  rw [eqB_iff] at h1 h2 h3
  simp only [Bool.false_eq_true, false_iff] at h1 h2 h3
  have hp := M_pos
  have ha := Nat.mod_lt a hp
  have hx := Nat.mod_lt x hp
  have hb := Nat.mod_lt b hp
  rw [sub_mod, sub_mod, sub_mod, sub_mod, decide_eq_decide]
  repeat' split
  all_goals omega

/-- a call that tells a truth, and leaves alone what was there -/
def Tells (f : FuncId) (args : Array Value) (r : Bool) : Prop := ∀ w : World, Calls Try.prog f args w fun e w' => e = .returned (.bool r) ∧ Below w.heap.size w w'
theorem Tells.grown {f : FuncId} {args : Array Value} {r : Bool} (h : Tells f args r) {W : World} (d : Nat) (os : Array Obj) : Calls Try.prog f args (grow (redrawn W d) os) fun e w'' => e = .returned (.bool r) ∧ ∃ p : Regrown, w'' = grow (redrawn W p.d) p.os :=
  Calls.regrown_of (h _)
theorem Tells.calls {f : FuncId} {args : Array Value} {r : Bool} (h : Tells f args r) (w : World) : Calls Try.prog f args w fun e w' => e = .returned (.bool r) ∧ Below w.heap.size w w' := h w
theorem placed_tells : Tells 11 #[] true := placed_all

set_option maxHeartbeats 2000000 in
set_option maxRecDepth 100000 in
theorem apart_true (a x b : Nat) (w : World) (c1 : Tells 18 #[idv a, idv a, idv b] false) (c2 : Tells 18 #[idv a, idv b, idv b] false) (c3 : Tells 20 #[idv a, idv b, idv b] true) (h1 : eqB a x = false) (h2 : eqB x b = false) (h3 : eqB a b = false)
    (c4 : Tells 18 #[idv a, idv x, idv b] true) (c5 : Tells 18 #[idv b, idv x, idv a] false) (c6 : Tells 18 #[idv x, idv b, idv a] true) (c7 : Tells 20 #[idv a, idv x, idv b] true) :
    Calls Try.prog 6 #[idv a, idv x, idv b] w fun e w' => e = .returned (.bool true) ∧ Below w.heap.size w w' := by
  have H1 := Lib.hid h1
  have H2 := Lib.hid h2
  have H3 := Lib.hid h3
  clear h1 h2 h3
  rw [show idv a = .agg (row (dig 20 a)) from rfl, show idv x = .agg (row (dig 20 x)) from rfl, show idv b = .agg (row (dig 20 b)) from rfl]
  go_enter Try.func6, Try.ntmps6
  go_upto_region 1 with (fail)
  generalize hW : ((w.alloc (.cells (row (dig 20 a)) 23)).alloc (.cells (row (dig 20 x)) 23)).alloc (.cells (row (dig 20 b)) 23) = W0
  have hm : Mem3 w W0 a x b := hW ▸ Mem3.made w a x b
  clear hW
  have B0 := hm.below
  have A1 : At W0 w.heap.size a := hm.a
  have A2 : At W0 (w.heap.size + 1) x := hm.x
  have A3 : At W0 (w.heap.size + 1 + 1) b := hm.b
  clear hm
  go_upto_region 3 with (first | (go_at_call 18; with_reducible refine (c1.calls _).mono ?_; rintro e w1 ⟨rfl, hb⟩; replace A1 := A1.below hb; replace A2 := A2.below hb; replace A3 := A3.below hb; replace B0 := B0.trans (hb.mono B0.size); clear hb) | (go_at_call 18; with_reducible refine (c2.calls _).mono ?_; rintro e w1 ⟨rfl, hb⟩; replace A1 := A1.below hb; replace A2 := A2.below hb; replace A3 := A3.below hb; replace B0 := B0.trans (hb.mono B0.size); clear hb) | (go_at_call 20; with_reducible refine (c3.calls _).mono ?_; rintro e w1 ⟨rfl, hb⟩; replace A1 := A1.below hb; replace A2 := A2.below hb; replace A3 := A3.below hb; replace B0 := B0.trans (hb.mono B0.size); clear hb) | (refine p_load rfl _ rfl _ rfl _ (by first | with_reducible exact A1 | with_reducible exact A2 | with_reducible exact A3) ?_) | (go_guarded; refine o_load _ rfl _ rfl _ (by first | with_reducible exact A1 | with_reducible exact A2 | with_reducible exact A3) ?_; simp only [Act.put, List.setIfInBounds_toArray, List.set_cons_succ, List.set_cons_zero]))
  go_upto_region 5 with (first | (refine p_load rfl _ rfl _ rfl _ (by first | with_reducible exact A1 | with_reducible exact A2 | with_reducible exact A3) ?_) | (go_guarded; refine o_load _ rfl _ rfl _ (by first | with_reducible exact A1 | with_reducible exact A2 | with_reducible exact A3) ?_; simp only [Act.put, List.setIfInBounds_toArray, List.set_cons_succ, List.set_cons_zero]) | (refine p_eql rfl _ _ rfl _ _ rfl rfl H1.out ?_) | (go_guarded; refine o_eql _ _ rfl _ _ rfl rfl H1.out ?_; simp only [Act.put, List.setIfInBounds_toArray, List.set_cons_succ, List.set_cons_zero]) | (refine p_eql rfl _ _ rfl _ _ rfl rfl H2.out ?_) | (go_guarded; refine o_eql _ _ rfl _ _ rfl rfl H2.out ?_; simp only [Act.put, List.setIfInBounds_toArray, List.set_cons_succ, List.set_cons_zero]) | (refine p_eql rfl _ _ rfl _ _ rfl rfl H3.out ?_) | (go_guarded; refine o_eql _ _ rfl _ _ rfl rfl H3.out ?_; simp only [Act.put, List.setIfInBounds_toArray, List.set_cons_succ, List.set_cons_zero]))
  refine wp_region_quiet_below (by kernel_rfl) (by kernel_rfl) ?_
  repeat (first
    | go_big_quiet_skip
    | (go_big_quiet_want
       first
       | (first | (refine q_at _ rfl _ _ rfl (by first | with_reducible exact A1 | with_reducible exact A2 | with_reducible exact A3) ?_) 
          simp only [Act.put, List.setIfInBounds_toArray, List.set_cons_succ, List.set_cons_zero]
          go_big_quiet_on)
       | (go_big_quiet_op
          first | go_big_quiet_on | go_big_quiet_call (first | with_reducible exact placed_tells.grown _ _ | with_reducible exact c4.grown _ _ | with_reducible exact c5.grown _ _ | with_reducible exact c6.grown _ _ | with_reducible exact c7.grown _ _))))
  refine wpQuiet_nil ?_
  intro _ hw'
  obtain ⟨⟨dq, osq⟩, hw''⟩ := hw'
  subst hw''
  have HB : Hid (Below w.heap.size w (grow (redrawn w1 dq) osq)) := B0.trans ((below_regrown w1 dq osq).mono B0.size)
  go_wp2
  go_ret
  exact ⟨rfl, HB.out⟩
set_option maxHeartbeats 2000000 in
set_option maxRecDepth 100000 in
theorem apart_false (a x b : Nat) (w : World) (c1 : Tells 18 #[idv a, idv a, idv b] false) (c2 : Tells 18 #[idv a, idv b, idv b] false) (c3 : Tells 20 #[idv a, idv b, idv b] true) (h1 : eqB a x = false) (h2 : eqB x b = false) (h3 : eqB a b = false)
    (c4 : Tells 18 #[idv a, idv x, idv b] false) (c5 : Tells 18 #[idv b, idv x, idv a] true) (c6 : Tells 18 #[idv x, idv b, idv a] false) (c7 : Tells 20 #[idv a, idv x, idv b] false) :
    Calls Try.prog 6 #[idv a, idv x, idv b] w fun e w' => e = .returned (.bool true) ∧ Below w.heap.size w w' := by
  have H1 := Lib.hid h1
  have H2 := Lib.hid h2
  have H3 := Lib.hid h3
  clear h1 h2 h3
  rw [show idv a = .agg (row (dig 20 a)) from rfl, show idv x = .agg (row (dig 20 x)) from rfl, show idv b = .agg (row (dig 20 b)) from rfl]
  go_enter Try.func6, Try.ntmps6
  go_upto_region 1 with (fail)
  generalize hW : ((w.alloc (.cells (row (dig 20 a)) 23)).alloc (.cells (row (dig 20 x)) 23)).alloc (.cells (row (dig 20 b)) 23) = W0
  have hm : Mem3 w W0 a x b := hW ▸ Mem3.made w a x b
  clear hW
  have B0 := hm.below
  have A1 : At W0 w.heap.size a := hm.a
  have A2 : At W0 (w.heap.size + 1) x := hm.x
  have A3 : At W0 (w.heap.size + 1 + 1) b := hm.b
  clear hm
  go_upto_region 3 with (first | (go_at_call 18; with_reducible refine (c1.calls _).mono ?_; rintro e w1 ⟨rfl, hb⟩; replace A1 := A1.below hb; replace A2 := A2.below hb; replace A3 := A3.below hb; replace B0 := B0.trans (hb.mono B0.size); clear hb) | (go_at_call 18; with_reducible refine (c2.calls _).mono ?_; rintro e w1 ⟨rfl, hb⟩; replace A1 := A1.below hb; replace A2 := A2.below hb; replace A3 := A3.below hb; replace B0 := B0.trans (hb.mono B0.size); clear hb) | (go_at_call 20; with_reducible refine (c3.calls _).mono ?_; rintro e w1 ⟨rfl, hb⟩; replace A1 := A1.below hb; replace A2 := A2.below hb; replace A3 := A3.below hb; replace B0 := B0.trans (hb.mono B0.size); clear hb) | (refine p_load rfl _ rfl _ rfl _ (by first | with_reducible exact A1 | with_reducible exact A2 | with_reducible exact A3) ?_) | (go_guarded; refine o_load _ rfl _ rfl _ (by first | with_reducible exact A1 | with_reducible exact A2 | with_reducible exact A3) ?_; simp only [Act.put, List.setIfInBounds_toArray, List.set_cons_succ, List.set_cons_zero]))
  go_upto_region 5 with (first | (refine p_load rfl _ rfl _ rfl _ (by first | with_reducible exact A1 | with_reducible exact A2 | with_reducible exact A3) ?_) | (go_guarded; refine o_load _ rfl _ rfl _ (by first | with_reducible exact A1 | with_reducible exact A2 | with_reducible exact A3) ?_; simp only [Act.put, List.setIfInBounds_toArray, List.set_cons_succ, List.set_cons_zero]) | (refine p_eql rfl _ _ rfl _ _ rfl rfl H1.out ?_) | (go_guarded; refine o_eql _ _ rfl _ _ rfl rfl H1.out ?_; simp only [Act.put, List.setIfInBounds_toArray, List.set_cons_succ, List.set_cons_zero]) | (refine p_eql rfl _ _ rfl _ _ rfl rfl H2.out ?_) | (go_guarded; refine o_eql _ _ rfl _ _ rfl rfl H2.out ?_; simp only [Act.put, List.setIfInBounds_toArray, List.set_cons_succ, List.set_cons_zero]) | (refine p_eql rfl _ _ rfl _ _ rfl rfl H3.out ?_) | (go_guarded; refine o_eql _ _ rfl _ _ rfl rfl H3.out ?_; simp only [Act.put, List.setIfInBounds_toArray, List.set_cons_succ, List.set_cons_zero]))
  refine wp_region_quiet_below (by kernel_rfl) (by kernel_rfl) ?_
  repeat (first
    | go_big_quiet_skip
    | (go_big_quiet_want
       first
       | (first | (refine q_at _ rfl _ _ rfl (by first | with_reducible exact A1 | with_reducible exact A2 | with_reducible exact A3) ?_) 
          simp only [Act.put, List.setIfInBounds_toArray, List.set_cons_succ, List.set_cons_zero]
          go_big_quiet_on)
       | (go_big_quiet_op
          first | go_big_quiet_on | go_big_quiet_call (first | with_reducible exact placed_tells.grown _ _ | with_reducible exact c4.grown _ _ | with_reducible exact c5.grown _ _ | with_reducible exact c6.grown _ _ | with_reducible exact c7.grown _ _))))
  refine wpQuiet_nil ?_
  intro _ hw'
  obtain ⟨⟨dq, osq⟩, hw''⟩ := hw'
  subst hw''
  have HB : Hid (Below w.heap.size w (grow (redrawn w1 dq) osq)) := B0.trans ((below_regrown w1 dq osq).mono B0.size)
  go_wp2
  go_ret
  exact ⟨rfl, HB.out⟩
set_option maxHeartbeats 2000000 in
set_option maxRecDepth 100000 in
theorem same_ff1 (a x b : Nat) (w : World) (c1 : Tells 18 #[idv a, idv a, idv b] false) (c2 : Tells 18 #[idv a, idv b, idv b] false) (c3 : Tells 20 #[idv a, idv b, idv b] true) (h1 : eqB a x = true) (h3 : eqB a b = false) (h4 : (!eqB a b) = true) :
    Calls Try.prog 6 #[idv a, idv x, idv b] w fun e w' => e = .returned (.bool true) ∧ Below w.heap.size w w' := by
  have H1 := Lib.hid h1
  have H3 := Lib.hid h3
  have H4 := Lib.hid h4
  clear h1 h3 h4
  rw [show idv a = .agg (row (dig 20 a)) from rfl, show idv x = .agg (row (dig 20 x)) from rfl, show idv b = .agg (row (dig 20 b)) from rfl]
  go_enter Try.func6, Try.ntmps6
  go_upto_region 1 with (fail)
  generalize hW : ((w.alloc (.cells (row (dig 20 a)) 23)).alloc (.cells (row (dig 20 x)) 23)).alloc (.cells (row (dig 20 b)) 23) = W0
  have hm : Mem3 w W0 a x b := hW ▸ Mem3.made w a x b
  clear hW
  have B0 := hm.below
  have A1 : At W0 w.heap.size a := hm.a
  have A2 : At W0 (w.heap.size + 1) x := hm.x
  have A3 : At W0 (w.heap.size + 1 + 1) b := hm.b
  clear hm
  go_upto_region 3 with (first | (go_at_call 18; with_reducible refine (c1.calls _).mono ?_; rintro e w1 ⟨rfl, hb⟩; replace A1 := A1.below hb; replace A2 := A2.below hb; replace A3 := A3.below hb; replace B0 := B0.trans (hb.mono B0.size); clear hb) | (go_at_call 18; with_reducible refine (c2.calls _).mono ?_; rintro e w1 ⟨rfl, hb⟩; replace A1 := A1.below hb; replace A2 := A2.below hb; replace A3 := A3.below hb; replace B0 := B0.trans (hb.mono B0.size); clear hb) | (go_at_call 20; with_reducible refine (c3.calls _).mono ?_; rintro e w1 ⟨rfl, hb⟩; replace A1 := A1.below hb; replace A2 := A2.below hb; replace A3 := A3.below hb; replace B0 := B0.trans (hb.mono B0.size); clear hb) | (refine p_load rfl _ rfl _ rfl _ (by first | with_reducible exact A1 | with_reducible exact A2 | with_reducible exact A3) ?_) | (go_guarded; refine o_load _ rfl _ rfl _ (by first | with_reducible exact A1 | with_reducible exact A2 | with_reducible exact A3) ?_; simp only [Act.put, List.setIfInBounds_toArray, List.set_cons_succ, List.set_cons_zero]))
  go_upto_region 4 with (first | (refine p_load rfl _ rfl _ rfl _ (by first | with_reducible exact A1 | with_reducible exact A2 | with_reducible exact A3) ?_) | (go_guarded; refine o_load _ rfl _ rfl _ (by first | with_reducible exact A1 | with_reducible exact A2 | with_reducible exact A3) ?_; simp only [Act.put, List.setIfInBounds_toArray, List.set_cons_succ, List.set_cons_zero]) | (refine p_eql rfl _ _ rfl _ _ rfl rfl H1.out ?_) | (go_guarded; refine o_eql _ _ rfl _ _ rfl rfl H1.out ?_; simp only [Act.put, List.setIfInBounds_toArray, List.set_cons_succ, List.set_cons_zero]) | (refine p_eql rfl _ _ rfl _ _ rfl rfl H3.out ?_) | (go_guarded; refine o_eql _ _ rfl _ _ rfl rfl H3.out ?_; simp only [Act.put, List.setIfInBounds_toArray, List.set_cons_succ, List.set_cons_zero]))
  refine wp_region_quiet_below (by kernel_rfl) (by kernel_rfl) ?_
  repeat (first
    | go_big_quiet_skip
    | (go_big_quiet_want
       first
       | (first | (refine q_at _ rfl _ _ rfl (by first | with_reducible exact A1 | with_reducible exact A2 | with_reducible exact A3) ?_) | (refine q_neq _ _ rfl _ _ rfl rfl H4.out ?_)
          simp only [Act.put, List.setIfInBounds_toArray, List.set_cons_succ, List.set_cons_zero]
          go_big_quiet_on)
       | (go_big_quiet_op
          first | go_big_quiet_on | go_big_quiet_call (first | with_reducible exact placed_tells.grown _ _))))
  refine wpQuiet_nil ?_
  intro _ hw'
  obtain ⟨⟨dq, osq⟩, hw''⟩ := hw'
  subst hw''
  have HB : Hid (Below w.heap.size w (grow (redrawn w1 dq) osq)) := B0.trans ((below_regrown w1 dq osq).mono B0.size)
  go_wp2
  go_ret
  exact ⟨rfl, HB.out⟩
set_option maxHeartbeats 2000000 in
set_option maxRecDepth 100000 in
theorem same_ff2 (a x b : Nat) (w : World) (c1 : Tells 18 #[idv a, idv a, idv b] false) (c2 : Tells 18 #[idv a, idv b, idv b] false) (c3 : Tells 20 #[idv a, idv b, idv b] true) (h1 : eqB a x = false) (h2 : eqB x b = true) (h3 : eqB a b = false) (h4 : (!eqB a b) = true) :
    Calls Try.prog 6 #[idv a, idv x, idv b] w fun e w' => e = .returned (.bool true) ∧ Below w.heap.size w w' := by
  have H1 := Lib.hid h1
  have H2 := Lib.hid h2
  have H3 := Lib.hid h3
  have H4 := Lib.hid h4
  clear h1 h2 h3 h4
  rw [show idv a = .agg (row (dig 20 a)) from rfl, show idv x = .agg (row (dig 20 x)) from rfl, show idv b = .agg (row (dig 20 b)) from rfl]
  go_enter Try.func6, Try.ntmps6
  go_upto_region 1 with (fail)
  generalize hW : ((w.alloc (.cells (row (dig 20 a)) 23)).alloc (.cells (row (dig 20 x)) 23)).alloc (.cells (row (dig 20 b)) 23) = W0
  have hm : Mem3 w W0 a x b := hW ▸ Mem3.made w a x b
  clear hW
  have B0 := hm.below
  have A1 : At W0 w.heap.size a := hm.a
  have A2 : At W0 (w.heap.size + 1) x := hm.x
  have A3 : At W0 (w.heap.size + 1 + 1) b := hm.b
  clear hm
  go_upto_region 3 with (first | (go_at_call 18; with_reducible refine (c1.calls _).mono ?_; rintro e w1 ⟨rfl, hb⟩; replace A1 := A1.below hb; replace A2 := A2.below hb; replace A3 := A3.below hb; replace B0 := B0.trans (hb.mono B0.size); clear hb) | (go_at_call 18; with_reducible refine (c2.calls _).mono ?_; rintro e w1 ⟨rfl, hb⟩; replace A1 := A1.below hb; replace A2 := A2.below hb; replace A3 := A3.below hb; replace B0 := B0.trans (hb.mono B0.size); clear hb) | (go_at_call 20; with_reducible refine (c3.calls _).mono ?_; rintro e w1 ⟨rfl, hb⟩; replace A1 := A1.below hb; replace A2 := A2.below hb; replace A3 := A3.below hb; replace B0 := B0.trans (hb.mono B0.size); clear hb) | (refine p_load rfl _ rfl _ rfl _ (by first | with_reducible exact A1 | with_reducible exact A2 | with_reducible exact A3) ?_) | (go_guarded; refine o_load _ rfl _ rfl _ (by first | with_reducible exact A1 | with_reducible exact A2 | with_reducible exact A3) ?_; simp only [Act.put, List.setIfInBounds_toArray, List.set_cons_succ, List.set_cons_zero]))
  go_upto_region 4 with (first | (refine p_load rfl _ rfl _ rfl _ (by first | with_reducible exact A1 | with_reducible exact A2 | with_reducible exact A3) ?_) | (go_guarded; refine o_load _ rfl _ rfl _ (by first | with_reducible exact A1 | with_reducible exact A2 | with_reducible exact A3) ?_; simp only [Act.put, List.setIfInBounds_toArray, List.set_cons_succ, List.set_cons_zero]) | (refine p_eql rfl _ _ rfl _ _ rfl rfl H1.out ?_) | (go_guarded; refine o_eql _ _ rfl _ _ rfl rfl H1.out ?_; simp only [Act.put, List.setIfInBounds_toArray, List.set_cons_succ, List.set_cons_zero]) | (refine p_eql rfl _ _ rfl _ _ rfl rfl H2.out ?_) | (go_guarded; refine o_eql _ _ rfl _ _ rfl rfl H2.out ?_; simp only [Act.put, List.setIfInBounds_toArray, List.set_cons_succ, List.set_cons_zero]) | (refine p_eql rfl _ _ rfl _ _ rfl rfl H3.out ?_) | (go_guarded; refine o_eql _ _ rfl _ _ rfl rfl H3.out ?_; simp only [Act.put, List.setIfInBounds_toArray, List.set_cons_succ, List.set_cons_zero]))
  refine wp_region_quiet_below (by kernel_rfl) (by kernel_rfl) ?_
  repeat (first
    | go_big_quiet_skip
    | (go_big_quiet_want
       first
       | (first | (refine q_at _ rfl _ _ rfl (by first | with_reducible exact A1 | with_reducible exact A2 | with_reducible exact A3) ?_) | (refine q_neq _ _ rfl _ _ rfl rfl H4.out ?_)
          simp only [Act.put, List.setIfInBounds_toArray, List.set_cons_succ, List.set_cons_zero]
          go_big_quiet_on)
       | (go_big_quiet_op
          first | go_big_quiet_on | go_big_quiet_call (first | with_reducible exact placed_tells.grown _ _))))
  refine wpQuiet_nil ?_
  intro _ hw'
  obtain ⟨⟨dq, osq⟩, hw''⟩ := hw'
  subst hw''
  have HB : Hid (Below w.heap.size w (grow (redrawn w1 dq) osq)) := B0.trans ((below_regrown w1 dq osq).mono B0.size)
  go_wp2
  go_ret
  exact ⟨rfl, HB.out⟩
set_option maxHeartbeats 2000000 in
set_option maxRecDepth 100000 in
theorem same_tt1 (a x b : Nat) (w : World) (c1 : Tells 18 #[idv a, idv a, idv b] false) (c2 : Tells 18 #[idv a, idv b, idv b] false) (c3 : Tells 20 #[idv a, idv b, idv b] true) (h1 : eqB a x = true) (h3 : eqB a b = true) (h4 : (!eqB a b) = false) (h5 : (!eqB x a) = false) (c4 : Tells 18 #[idv a, idv x, idv b] false) (c7 : Tells 20 #[idv a, idv x, idv b] true) :
    Calls Try.prog 6 #[idv a, idv x, idv b] w fun e w' => e = .returned (.bool true) ∧ Below w.heap.size w w' := by
  have H1 := Lib.hid h1
  have H3 := Lib.hid h3
  have H4 := Lib.hid h4
  have H5 := Lib.hid h5
  clear h1 h3 h4 h5
  rw [show idv a = .agg (row (dig 20 a)) from rfl, show idv x = .agg (row (dig 20 x)) from rfl, show idv b = .agg (row (dig 20 b)) from rfl]
  go_enter Try.func6, Try.ntmps6
  go_upto_region 1 with (fail)
  generalize hW : ((w.alloc (.cells (row (dig 20 a)) 23)).alloc (.cells (row (dig 20 x)) 23)).alloc (.cells (row (dig 20 b)) 23) = W0
  have hm : Mem3 w W0 a x b := hW ▸ Mem3.made w a x b
  clear hW
  have B0 := hm.below
  have A1 : At W0 w.heap.size a := hm.a
  have A2 : At W0 (w.heap.size + 1) x := hm.x
  have A3 : At W0 (w.heap.size + 1 + 1) b := hm.b
  clear hm
  go_upto_region 3 with (first | (go_at_call 18; with_reducible refine (c1.calls _).mono ?_; rintro e w1 ⟨rfl, hb⟩; replace A1 := A1.below hb; replace A2 := A2.below hb; replace A3 := A3.below hb; replace B0 := B0.trans (hb.mono B0.size); clear hb) | (go_at_call 18; with_reducible refine (c2.calls _).mono ?_; rintro e w1 ⟨rfl, hb⟩; replace A1 := A1.below hb; replace A2 := A2.below hb; replace A3 := A3.below hb; replace B0 := B0.trans (hb.mono B0.size); clear hb) | (go_at_call 20; with_reducible refine (c3.calls _).mono ?_; rintro e w1 ⟨rfl, hb⟩; replace A1 := A1.below hb; replace A2 := A2.below hb; replace A3 := A3.below hb; replace B0 := B0.trans (hb.mono B0.size); clear hb) | (refine p_load rfl _ rfl _ rfl _ (by first | with_reducible exact A1 | with_reducible exact A2 | with_reducible exact A3) ?_) | (go_guarded; refine o_load _ rfl _ rfl _ (by first | with_reducible exact A1 | with_reducible exact A2 | with_reducible exact A3) ?_; simp only [Act.put, List.setIfInBounds_toArray, List.set_cons_succ, List.set_cons_zero]))
  go_upto_region 4 with (first | (refine p_load rfl _ rfl _ rfl _ (by first | with_reducible exact A1 | with_reducible exact A2 | with_reducible exact A3) ?_) | (go_guarded; refine o_load _ rfl _ rfl _ (by first | with_reducible exact A1 | with_reducible exact A2 | with_reducible exact A3) ?_; simp only [Act.put, List.setIfInBounds_toArray, List.set_cons_succ, List.set_cons_zero]) | (refine p_eql rfl _ _ rfl _ _ rfl rfl H1.out ?_) | (go_guarded; refine o_eql _ _ rfl _ _ rfl rfl H1.out ?_; simp only [Act.put, List.setIfInBounds_toArray, List.set_cons_succ, List.set_cons_zero]) | (refine p_eql rfl _ _ rfl _ _ rfl rfl H3.out ?_) | (go_guarded; refine o_eql _ _ rfl _ _ rfl rfl H3.out ?_; simp only [Act.put, List.setIfInBounds_toArray, List.set_cons_succ, List.set_cons_zero]))
  refine wp_region_quiet_below (by kernel_rfl) (by kernel_rfl) ?_
  repeat (first
    | go_big_quiet_skip
    | (go_big_quiet_want
       first
       | (first | (refine q_at _ rfl _ _ rfl (by first | with_reducible exact A1 | with_reducible exact A2 | with_reducible exact A3) ?_) | (refine q_neq _ _ rfl _ _ rfl rfl H4.out ?_) | (refine q_neq _ _ rfl _ _ rfl rfl H5.out ?_)
          simp only [Act.put, List.setIfInBounds_toArray, List.set_cons_succ, List.set_cons_zero]
          go_big_quiet_on)
       | (go_big_quiet_op
          first | go_big_quiet_on | go_big_quiet_call (first | with_reducible exact placed_tells.grown _ _ | with_reducible exact c4.grown _ _ | with_reducible exact c7.grown _ _))))
  refine wpQuiet_nil ?_
  intro _ hw'
  obtain ⟨⟨dq, osq⟩, hw''⟩ := hw'
  subst hw''
  have HB : Hid (Below w.heap.size w (grow (redrawn w1 dq) osq)) := B0.trans ((below_regrown w1 dq osq).mono B0.size)
  go_wp2
  go_ret
  exact ⟨rfl, HB.out⟩
set_option maxHeartbeats 2000000 in
set_option maxRecDepth 100000 in
theorem same_tt2 (a x b : Nat) (w : World) (c1 : Tells 18 #[idv a, idv a, idv b] false) (c2 : Tells 18 #[idv a, idv b, idv b] false) (c3 : Tells 20 #[idv a, idv b, idv b] true) (h1 : eqB a x = false) (h2 : eqB x b = true) (h3 : eqB a b = true) (h4 : (!eqB a b) = false) (h5 : (!eqB x a) = true) (c4 : Tells 18 #[idv a, idv x, idv b] true) (c7 : Tells 20 #[idv a, idv x, idv b] true) :
    Calls Try.prog 6 #[idv a, idv x, idv b] w fun e w' => e = .returned (.bool true) ∧ Below w.heap.size w w' := by
  have H1 := Lib.hid h1
  have H2 := Lib.hid h2
  have H3 := Lib.hid h3
  have H4 := Lib.hid h4
  have H5 := Lib.hid h5
  clear h1 h2 h3 h4 h5
  rw [show idv a = .agg (row (dig 20 a)) from rfl, show idv x = .agg (row (dig 20 x)) from rfl, show idv b = .agg (row (dig 20 b)) from rfl]
  go_enter Try.func6, Try.ntmps6
  go_upto_region 1 with (fail)
  generalize hW : ((w.alloc (.cells (row (dig 20 a)) 23)).alloc (.cells (row (dig 20 x)) 23)).alloc (.cells (row (dig 20 b)) 23) = W0
  have hm : Mem3 w W0 a x b := hW ▸ Mem3.made w a x b
  clear hW
  have B0 := hm.below
  have A1 : At W0 w.heap.size a := hm.a
  have A2 : At W0 (w.heap.size + 1) x := hm.x
  have A3 : At W0 (w.heap.size + 1 + 1) b := hm.b
  clear hm
  go_upto_region 3 with (first | (go_at_call 18; with_reducible refine (c1.calls _).mono ?_; rintro e w1 ⟨rfl, hb⟩; replace A1 := A1.below hb; replace A2 := A2.below hb; replace A3 := A3.below hb; replace B0 := B0.trans (hb.mono B0.size); clear hb) | (go_at_call 18; with_reducible refine (c2.calls _).mono ?_; rintro e w1 ⟨rfl, hb⟩; replace A1 := A1.below hb; replace A2 := A2.below hb; replace A3 := A3.below hb; replace B0 := B0.trans (hb.mono B0.size); clear hb) | (go_at_call 20; with_reducible refine (c3.calls _).mono ?_; rintro e w1 ⟨rfl, hb⟩; replace A1 := A1.below hb; replace A2 := A2.below hb; replace A3 := A3.below hb; replace B0 := B0.trans (hb.mono B0.size); clear hb) | (refine p_load rfl _ rfl _ rfl _ (by first | with_reducible exact A1 | with_reducible exact A2 | with_reducible exact A3) ?_) | (go_guarded; refine o_load _ rfl _ rfl _ (by first | with_reducible exact A1 | with_reducible exact A2 | with_reducible exact A3) ?_; simp only [Act.put, List.setIfInBounds_toArray, List.set_cons_succ, List.set_cons_zero]))
  go_upto_region 4 with (first | (refine p_load rfl _ rfl _ rfl _ (by first | with_reducible exact A1 | with_reducible exact A2 | with_reducible exact A3) ?_) | (go_guarded; refine o_load _ rfl _ rfl _ (by first | with_reducible exact A1 | with_reducible exact A2 | with_reducible exact A3) ?_; simp only [Act.put, List.setIfInBounds_toArray, List.set_cons_succ, List.set_cons_zero]) | (refine p_eql rfl _ _ rfl _ _ rfl rfl H1.out ?_) | (go_guarded; refine o_eql _ _ rfl _ _ rfl rfl H1.out ?_; simp only [Act.put, List.setIfInBounds_toArray, List.set_cons_succ, List.set_cons_zero]) | (refine p_eql rfl _ _ rfl _ _ rfl rfl H2.out ?_) | (go_guarded; refine o_eql _ _ rfl _ _ rfl rfl H2.out ?_; simp only [Act.put, List.setIfInBounds_toArray, List.set_cons_succ, List.set_cons_zero]) | (refine p_eql rfl _ _ rfl _ _ rfl rfl H3.out ?_) | (go_guarded; refine o_eql _ _ rfl _ _ rfl rfl H3.out ?_; simp only [Act.put, List.setIfInBounds_toArray, List.set_cons_succ, List.set_cons_zero]))
  refine wp_region_quiet_below (by kernel_rfl) (by kernel_rfl) ?_
  repeat (first
    | go_big_quiet_skip
    | (go_big_quiet_want
       first
       | (first | (refine q_at _ rfl _ _ rfl (by first | with_reducible exact A1 | with_reducible exact A2 | with_reducible exact A3) ?_) | (refine q_neq _ _ rfl _ _ rfl rfl H4.out ?_) | (refine q_neq _ _ rfl _ _ rfl rfl H5.out ?_)
          simp only [Act.put, List.setIfInBounds_toArray, List.set_cons_succ, List.set_cons_zero]
          go_big_quiet_on)
       | (go_big_quiet_op
          first | go_big_quiet_on | go_big_quiet_call (first | with_reducible exact placed_tells.grown _ _ | with_reducible exact c4.grown _ _ | with_reducible exact c7.grown _ _))))
  refine wpQuiet_nil ?_
  intro _ hw'
  obtain ⟨⟨dq, osq⟩, hw''⟩ := hw'
  subst hw''
  have HB : Hid (Below w.heap.size w (grow (redrawn w1 dq) osq)) := B0.trans ((below_regrown w1 dq osq).mono B0.size)
  go_wp2
  go_ret
  exact ⟨rfl, HB.out⟩
set_option maxHeartbeats 2000000 in
set_option maxRecDepth 100000 in
theorem same_tt3 (a x b : Nat) (w : World) (c1 : Tells 18 #[idv a, idv a, idv b] false) (c2 : Tells 18 #[idv a, idv b, idv b] false) (c3 : Tells 20 #[idv a, idv b, idv b] true) (h1 : eqB a x = false) (h2 : eqB x b = false) (h3 : eqB a b = true) (h4 : (!eqB a b) = false) (h5 : (!eqB x a) = true) (c4 : Tells 18 #[idv a, idv x, idv b] true) (c7 : Tells 20 #[idv a, idv x, idv b] true) :
    Calls Try.prog 6 #[idv a, idv x, idv b] w fun e w' => e = .returned (.bool true) ∧ Below w.heap.size w w' := by
  have H1 := Lib.hid h1
  have H2 := Lib.hid h2
  have H3 := Lib.hid h3
  have H4 := Lib.hid h4
  have H5 := Lib.hid h5
  clear h1 h2 h3 h4 h5
  rw [show idv a = .agg (row (dig 20 a)) from rfl, show idv x = .agg (row (dig 20 x)) from rfl, show idv b = .agg (row (dig 20 b)) from rfl]
  go_enter Try.func6, Try.ntmps6
  go_upto_region 1 with (fail)
  generalize hW : ((w.alloc (.cells (row (dig 20 a)) 23)).alloc (.cells (row (dig 20 x)) 23)).alloc (.cells (row (dig 20 b)) 23) = W0
  have hm : Mem3 w W0 a x b := hW ▸ Mem3.made w a x b
  clear hW
  have B0 := hm.below
  have A1 : At W0 w.heap.size a := hm.a
  have A2 : At W0 (w.heap.size + 1) x := hm.x
  have A3 : At W0 (w.heap.size + 1 + 1) b := hm.b
  clear hm
  go_upto_region 3 with (first | (go_at_call 18; with_reducible refine (c1.calls _).mono ?_; rintro e w1 ⟨rfl, hb⟩; replace A1 := A1.below hb; replace A2 := A2.below hb; replace A3 := A3.below hb; replace B0 := B0.trans (hb.mono B0.size); clear hb) | (go_at_call 18; with_reducible refine (c2.calls _).mono ?_; rintro e w1 ⟨rfl, hb⟩; replace A1 := A1.below hb; replace A2 := A2.below hb; replace A3 := A3.below hb; replace B0 := B0.trans (hb.mono B0.size); clear hb) | (go_at_call 20; with_reducible refine (c3.calls _).mono ?_; rintro e w1 ⟨rfl, hb⟩; replace A1 := A1.below hb; replace A2 := A2.below hb; replace A3 := A3.below hb; replace B0 := B0.trans (hb.mono B0.size); clear hb) | (refine p_load rfl _ rfl _ rfl _ (by first | with_reducible exact A1 | with_reducible exact A2 | with_reducible exact A3) ?_) | (go_guarded; refine o_load _ rfl _ rfl _ (by first | with_reducible exact A1 | with_reducible exact A2 | with_reducible exact A3) ?_; simp only [Act.put, List.setIfInBounds_toArray, List.set_cons_succ, List.set_cons_zero]))
  go_upto_region 4 with (first | (refine p_load rfl _ rfl _ rfl _ (by first | with_reducible exact A1 | with_reducible exact A2 | with_reducible exact A3) ?_) | (go_guarded; refine o_load _ rfl _ rfl _ (by first | with_reducible exact A1 | with_reducible exact A2 | with_reducible exact A3) ?_; simp only [Act.put, List.setIfInBounds_toArray, List.set_cons_succ, List.set_cons_zero]) | (refine p_eql rfl _ _ rfl _ _ rfl rfl H1.out ?_) | (go_guarded; refine o_eql _ _ rfl _ _ rfl rfl H1.out ?_; simp only [Act.put, List.setIfInBounds_toArray, List.set_cons_succ, List.set_cons_zero]) | (refine p_eql rfl _ _ rfl _ _ rfl rfl H2.out ?_) | (go_guarded; refine o_eql _ _ rfl _ _ rfl rfl H2.out ?_; simp only [Act.put, List.setIfInBounds_toArray, List.set_cons_succ, List.set_cons_zero]) | (refine p_eql rfl _ _ rfl _ _ rfl rfl H3.out ?_) | (go_guarded; refine o_eql _ _ rfl _ _ rfl rfl H3.out ?_; simp only [Act.put, List.setIfInBounds_toArray, List.set_cons_succ, List.set_cons_zero]))
  refine wp_region_quiet_below (by kernel_rfl) (by kernel_rfl) ?_
  repeat (first
    | go_big_quiet_skip
    | (go_big_quiet_want
       first
       | (first | (refine q_at _ rfl _ _ rfl (by first | with_reducible exact A1 | with_reducible exact A2 | with_reducible exact A3) ?_) | (refine q_neq _ _ rfl _ _ rfl rfl H4.out ?_) | (refine q_neq _ _ rfl _ _ rfl rfl H5.out ?_)
          simp only [Act.put, List.setIfInBounds_toArray, List.set_cons_succ, List.set_cons_zero]
          go_big_quiet_on)
       | (go_big_quiet_op
          first | go_big_quiet_on | go_big_quiet_call (first | with_reducible exact placed_tells.grown _ _ | with_reducible exact c4.grown _ _ | with_reducible exact c7.grown _ _))))
  refine wpQuiet_nil ?_
  intro _ hw'
  obtain ⟨⟨dq, osq⟩, hw''⟩ := hw'
  subst hw''
  have HB : Hid (Below w.heap.size w (grow (redrawn w1 dq) osq)) := B0.trans ((below_regrown w1 dq osq).mono B0.size)
  go_wp2
  go_ret
  exact ⟨rfl, HB.out⟩

theorem walk (a x b : Nat) (w : World) : Calls Try.prog 6 #[idv a, idv x, idv b] w fun e w' => e = .returned (.bool true) ∧ Below w.heap.size w w' := by
  have c1 : Tells 18 #[idv a, idv a, idv b] false := fun w => open_end1 a b ▸ open_all a a b w
  have c2 : Tells 18 #[idv a, idv b, idv b] false := fun w => open_end2 a b ▸ open_all a b b w
  have c3 : Tells 20 #[idv a, idv b, idv b] true := fun w => half_end a b ▸ half_all a b b w
  have c4 : ∀ r, openB a x b = r → Tells 18 #[idv a, idv x, idv b] r := fun r h w => h ▸ open_all a x b w
  have c5 : ∀ r, openB b x a = r → Tells 18 #[idv b, idv x, idv a] r := fun r h w => h ▸ open_all b x a w
  have c6 : ∀ r, openB x b a = r → Tells 18 #[idv x, idv b, idv a] r := fun r h w => h ▸ open_all x b a w
  have c7 : ∀ r, halfB a x b = r → Tells 20 #[idv a, idv x, idv b] r := fun r h w => h ▸ half_all a x b w
  have nt : ∀ p q, eqB p q = true → (!eqB p q) = false := fun p q h => by rw [h]; rfl
  have nf : ∀ p q, eqB p q = false → (!eqB p q) = true := fun p q h => by rw [h]; rfl
  cases h3 : eqB a b
  · cases h1 : eqB a x
    · cases h2 : eqB x b
      · cases ho : openB a x b
        · exact apart_false a x b w c1 c2 c3 h1 h2 h3 (c4 _ ho) (c5 _ (by rw [arcs_other h1 h2 h3, ho]; rfl)) (c6 _ (by rw [arcs_turned h1 h2 h3, ho])) (c7 _ (by rw [half_ne h2, ho]))
        · exact apart_true a x b w c1 c2 c3 h1 h2 h3 (c4 _ ho) (c5 _ (by rw [arcs_other h1 h2 h3, ho]; rfl)) (c6 _ (by rw [arcs_turned h1 h2 h3, ho])) (c7 _ (by rw [half_ne h2, ho]))
      · exact same_ff2 a x b w c1 c2 c3 h1 h2 h3 (nf _ _ h3)
    · exact same_ff1 a x b w c1 c2 c3 h1 h3 (nf _ _ h3)
  · have hh := c7 _ (half_eq h3)
    cases h1 : eqB a x
    · have h5 := nf x a (by rw [eqB_comm]; exact h1)
      have hop := c4 true (by rw [open_eq h3, h1]; rfl)
      cases h2 : eqB x b
      · exact same_tt3 a x b w c1 c2 c3 h1 h2 h3 (nt _ _ h3) h5 hop hh
      · exact same_tt2 a x b w c1 c2 c3 h1 h2 h3 (nt _ _ h3) h5 hop hh
    · exact same_tt1 a x b w c1 c2 c3 h1 h3 (nt _ _ h3) (nt x a (by rw [eqB_comm]; exact h1)) (c4 false (by rw [open_eq h3, h1]; rfl)) hh

set_option maxRecDepth 100000 in
theorem lifted (os : Os) (started : os.Started) (H : Type) (enc : TypeId × Value → H) :
    ReturnsInHanded {} Try.checked os 6 .any (Rows.identArcsSpec.pre6 enc Try.prog Try.f6 Rows.identArcsRow.domain false) (Rows.identArcsSpec.post enc Try.prog Try.f6 false true false false) := by
  refine returnsInHanded_of_change (C := Try.checked) own started (by kernel_rfl) Try.func6
    (ChangeSpec.witness6 (enc := enc) (C := Try.checked) false ⟨#[], #[.agg #[.int .u8 0, .int .u8 0, .int .u8 0, .int .u8 0, .int .u8 0, .int .u8 0, .int .u8 0, .int .u8 0, .int .u8 0, .int .u8 0, .int .u8 0, .int .u8 0, .int .u8 0, .int .u8 0, .int .u8 0, .int .u8 0, .int .u8 0, .int .u8 0, .int .u8 0, .int .u8 0], .agg #[.int .u8 0, .int .u8 0, .int .u8 0, .int .u8 0, .int .u8 0, .int .u8 0, .int .u8 0, .int .u8 0, .int .u8 0, .int .u8 0, .int .u8 0, .int .u8 0, .int .u8 0, .int .u8 0, .int .u8 0, .int .u8 0, .int .u8 0, .int .u8 0, .int .u8 0, .int .u8 0], .agg #[.int .u8 0, .int .u8 0, .int .u8 0, .int .u8 0, .int .u8 0, .int .u8 0, .int .u8 0, .int .u8 0, .int .u8 0, .int .u8 0, .int .u8 0, .int .u8 0, .int .u8 0, .int .u8 0, .int .u8 0, .int .u8 0, .int .u8 0, .int .u8 0, .int .u8 0, .int .u8 0]], []⟩ 8 (by kernel_rfl) (by kernel_rfl) (by kernel_rfl) (by kernel_rfl)) ?_
  intro W base args ds gs before hval0 hW hcnd _
  have hval : ∀ (j : Nat) t v, Try.f6.params[j]? = some t → args[j]? = some v → Value.okWide Try.prog W .any base t v := hval0
  have hW' := hW
  obtain ⟨p, q, hA0, hV, rfl, hfz, hnd⟩ := hW
  have hA : DataW.TrodAll enc Try.prog W 0 (fun _ => true) true Try.f6.params.toList args.toList ds p := hA0
  rw [Try.params6] at hA hval
  obtain ⟨v0, vs0, d0, ds0, p0, q0, hargs, rfl, rfl, h0, r0⟩ := trodAll_cons hA
  obtain ⟨v1, vs1, d1, ds1, p1, q1, rfl, rfl, rfl, h1, r1⟩ := trodAll_cons r0
  obtain ⟨v2, vs2, d2, ds2, p2, q2, rfl, rfl, rfl, h2, r2⟩ := trodAll_cons r1
  obtain ⟨rfl, rfl, rfl⟩ := trodAll_nil r2
  obtain rfl : args = #[v0, v1, v2] := by cases args; simp_all
  obtain ⟨rfl, rfl⟩ := trodVars_none hV
  have k0 := h0
  have lt0 : ∀ x ∈ p0, x.block < W.heap.size := by obtain ⟨m, hm⟩ := k0; exact DataW.trod_lt m _ _ _ hm
  obtain ⟨n0, _, rfl⟩ := open_id (hval 0 23 v0 rfl rfl) h0
  have k1 := h1
  have lt1 : ∀ x ∈ p1, x.block < W.heap.size := by obtain ⟨m, hm⟩ := k1; exact DataW.trod_lt m _ _ _ hm
  obtain ⟨n1, _, rfl⟩ := open_id (hval 1 23 v1 rfl rfl) h1
  have k2 := h2
  have lt2 : ∀ x ∈ p2, x.block < W.heap.size := by obtain ⟨m, hm⟩ := k2; exact DataW.trod_lt m _ _ _ hm
  obtain ⟨n2, _, rfl⟩ := open_id (hval 2 23 v2 rfl rfl) h2
  clear hA0 hval0
  refine (walk n0 n1 n2 W).mono fun e W' ⟨he, bel⟩ => ?_
  subst he
  exact ⟨_, rfl, _, _, _, [], _, [], hW', trodAll_mk1 (shut_bool Try.underlying4 _), (trodAll_cons_mk (Below.trod laidOut (by kernel_rfl) (of_decide_eq_true (by kernel_rfl)) k0 bel lt0) (trodAll_cons_mk (Below.trod laidOut (by kernel_rfl) (of_decide_eq_true (by kernel_rfl)) k1 bel lt1) (trodAll_cons_mk (Below.trod laidOut (by kernel_rfl) (of_decide_eq_true (by kernel_rfl)) k2 bel lt2) trodAll_mk0))), rfl, bel.frame _, fun h => by cases h⟩

theorem proved : Rows.IdentArcsSaid :=
  OpenClaim.holds_of_wide 6 Try.f6 rfl rfl rfl rfl rfl rfl rfl ⟨rfl, rfl, rfl, rfl, rfl⟩ rfl rfl rfl rfl rfl (by kernel_rfl) Try.func6 (by kernel_rfl)
    (of_decide_eq_true (by kernel_rfl)) (by unfold Func.isWrapper; first | (rw [if_pos (by decide +kernel)]; kernel_rfl) | (rw [if_neg (by decide +kernel)]; exact ⟨rfl, rfl⟩))
    (fun os started H enc _ => lifted os started H enc)
end Go.Proofs.Yteljhengfeebfaa.ArcsLaw
