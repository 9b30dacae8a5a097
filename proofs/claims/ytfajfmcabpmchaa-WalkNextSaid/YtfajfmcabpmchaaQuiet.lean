/- The calls of layer 1 by contracts without conditions, each of a place that is told by any number; and what a region of loads, comparisons and calls needs. -/
import Derived.Test.YtfajfmcabpmchaaSum
import Derived.Test.YtfajfmcabpmchaaLess
import Derived.Test.YtfajfmcabpmchaaEq
import Derived.Deep.Cut
namespace Go.Proofs.Ytfajfmcabpmchaa
open Go.RowKit Go.Sort

theorem M_pos : 0 < M := Nat.pow_pos (by omega)
theorem idv_mod (n : Nat) : idv (n % M) = idv n := by unfold idv M; rw [dig_mod]
theorem idv_eq {a b : Nat} (h : a % M = b % M) : idv a = idv b := by rw [← idv_mod a, h, idv_mod]

/-- a less b, on the ring -/
def sub (a b : Nat) : Nat := a + M - b % M
def lessB (a b : Nat) : Bool := decide (a % M < b % M)
def eqB (a b : Nat) : Bool := decide (a % M = b % M)

theorem minus_all (a b : Nat) (w : World) : Calls Try.prog 21 #[idv a, idv b] w fun e w' => e = .returned (idv (sub a b)) ∧ Below w.heap.size w w' := by
  rw [← idv_mod b]; exact minus_any a (b % M) w (Nat.mod_lt _ M_pos)
theorem refMinus_all (a b : Nat) (w : World) : Calls Try.prog 60 #[idv a, idv b] w fun e w' => e = .returned (idv (sub a b)) ∧ Below w.heap.size w w' := by
  rw [← idv_mod b]; exact refMinus_any a (b % M) w (Nat.mod_lt _ M_pos)
theorem less_all (a b : Nat) (w : World) : Calls Try.prog 23 #[idv a, idv b] w fun e w' => e = .returned (.bool (lessB a b)) ∧ Below w.heap.size w w' := by
  rw [← idv_mod a, ← idv_mod b]; exact less_any (a % M) (b % M) w (Nat.mod_lt _ M_pos) (Nat.mod_lt _ M_pos)
theorem refLess_all (a b : Nat) (w : World) : Calls Try.prog 59 #[idv a, idv b] w fun e w' => e = .returned (.bool (lessB a b)) ∧ Below w.heap.size w w' := by
  rw [← idv_mod a, ← idv_mod b]; exact refLess_any (a % M) (b % M) w (Nat.mod_lt _ M_pos) (Nat.mod_lt _ M_pos)

theorem run_eql (a b : Nat) (w : World) : (binOp .eql 24 (idv a) (idv b)).run Try.prog w = .ok (.bool (eqB a b)) w := by
  rw [← idv_mod a, ← idv_mod b]; exact run_eql_id _ _ (Nat.mod_lt _ M_pos) (Nat.mod_lt _ M_pos) w
theorem run_neq (a b : Nat) (w : World) : (binOp .neq 24 (idv a) (idv b)).run Try.prog w = .ok (.bool (!eqB a b)) w := by
  rw [← idv_mod a, ← idv_mod b]; exact run_neq_id _ _ (Nat.mod_lt _ M_pos) (Nat.mod_lt _ M_pos) w
theorem run_guard (op : BinOp) (x y : Operand) (a b : Nat) (w : World) : (eqGuard op 24 x y (idv a) (idv b)).run Try.prog w = .ok () w := by
  unfold idv; exact run_eqGuard_agg w op 24 x y _ _ guard23

theorem run_loadAt_id (W : World) (g n : Nat) (hg : W.heap[g]? = some (.cells (row (dig 20 n)) 24 (0, 0))) (d : Nat) (os : Array Obj) :
    (Instr.loadAt 24 (.pointer (some ⟨g, 0, none⟩))).run Try.prog (grow (redrawn W d) os) = .ok (idv n) (grow (redrawn W d) os) := by
  have hlt : g < W.heap.size := by
    rcases Nat.lt_or_ge g W.heap.size with h | h
    · exact h
    · rw [Array.getElem?_eq_none h] at hg; cases hg
  have hg' : (grow (redrawn W d) os).heap[g]? = some (.cells (row (dig 20 n)) 24 (0, 0)) := ((below_regrown W d os).block g hlt).trans hg
  simp only [Instr.loadAt, Instr.sureAddr, Sem.run_bind, Sem.run_pure, Result.andThen_ok, run_loadVar_row _ g 24 24 _ (0, 0) _ hg' Try.underlying24 rfl (by rw [row_size, dig_length]; exact Try.info23)]
  rfl

/-- a load of a place, in every world in which nothing that was there has changed -/
theorem q_load {W : World} {o : Oper} {a : Act} {K : Act → Prop} (x : Operand) (ho : o.op = .load 24 x) (g n : Nat) (hx : a.eval x = .pointer (some ⟨g, 0, none⟩))
    (hg : W.heap[g]? = some (.cells (row (dig 20 n)) 24 (0, 0))) (hk : K (a.put o.dst (idv n))) : o.quiet Try.prog a (fun w' => ∃ p : Regrown, w' = grow (redrawn W p.d) p.os) K := by
  refine ⟨idv n, ?_, hk⟩
  rintro w' ⟨p, rfl⟩
  unfold Oper.quietAt execOp
  simp only [ho, hx, Sem.run_bind, run_loadAt_id W g n hg, Sem.run_pure, Result.andThen_ok]
  exact ⟨rfl, rfl⟩

theorem wpList_load_n {ops : Array Oper} {rest : List Oper} {o : Oper} {a : Act} {w : World} {Q : Exit → Act → World → Prop} (hgd : o.guard = none) (x : Operand) (ho : o.op = .load 24 x)
    (g : Nat) (hx : a.eval x = .pointer (some ⟨g, 0, none⟩)) (n : Nat) (hg : w.heap[g]? = some (.cells (row (dig 20 n)) 24 (0, 0)))
    (h : wpList Try.prog ops Q rest (a.put o.dst (idv n)) w) : wpList Try.prog ops Q (o :: rest) a w :=
  wpList_load_id hgd x ho g hx (dig 20 n) hg (dig_length _ _) h

theorem wpList_load_w {ops : Array Oper} {rest : List Oper} {o : Oper} {a : Act} {w : World} {Q : Exit → Act → World → Prop} (hw : Region.wanted o (yielded ops a.tmps) = true) (x : Operand) (ho : o.op = .load 24 x)
    (g : Nat) (hx : a.eval x = .pointer (some ⟨g, 0, none⟩)) (n : Nat) (hg : w.heap[g]? = some (.cells (row (dig 20 n)) 24 (0, 0)))
    (h : wpList Try.prog ops Q rest (a.put o.dst (idv n)) w) : wpList Try.prog ops Q (o :: rest) a w :=
  BigFrame.wpList_want hw fun _ hK => wp_load_row 24 x ho g hx 24 _ (0, 0) _ hg Try.underlying24 rfl (by rw [row_size, dig_length]; exact Try.info23) (hK _ _ h)

/-- three places in memory -/
structure Mem3 (w W : World) (a x b : Nat) : Prop where
  below : Below w.heap.size w W
  a : W.heap[w.heap.size]? = some (.cells (row (dig 20 a)) 24 (0, 0))
  x : W.heap[w.heap.size + 1]? = some (.cells (row (dig 20 x)) 24 (0, 0))
  b : W.heap[w.heap.size + 1 + 1]? = some (.cells (row (dig 20 b)) 24 (0, 0))
theorem Mem3.made (w : World) (a x b : Nat) : Mem3 w (((w.alloc (.cells (row (dig 20 a)) 24)).alloc (.cells (row (dig 20 x)) 24)).alloc (.cells (row (dig 20 b)) 24)) a x b := by
  refine ⟨(((Below.refl _ _).alloc (Nat.le_refl _) _).alloc (by simp) _).alloc (by simp; omega) _, ?_, ?_, ?_⟩
  · rw [Below.heap_alloc _ _ _ (by simp; omega)]; exact heap_alloc2_old _ _ _
  · rw [Below.heap_alloc _ _ _ (by simp)]; exact heap_alloc2_new _ _ _
  · have := heap_alloc_new ((w.alloc (.cells (row (dig 20 a)) 24)).alloc (.cells (row (dig 20 x)) 24)) (.cells (row (dig 20 b)) 24)
    simpa using this

/-- whether one comes to x ahead of b, clockwise from a on -/
def openB (a x b : Nat) : Bool := !eqB x a && (eqB a b || lessB (sub x a) (sub b a))
def halfB (a x b : Nat) : Bool := eqB x b || openB a x b

theorem open_all (a x b : Nat) (w : World) : Calls Try.prog 52 #[idv a, idv x, idv b] w fun e w' => e = .returned (.bool (openB a x b)) ∧ Below w.heap.size w w' := by
  rw [show idv a = .agg (row (dig 20 a)) from rfl, show idv x = .agg (row (dig 20 x)) from rfl, show idv b = .agg (row (dig 20 b)) from rfl]
  go_enter Try.func52, Try.ntmps52
  go_wp2
  generalize hW : ((w.alloc (.cells (row (dig 20 a)) 24)).alloc (.cells (row (dig 20 x)) 24)).alloc (.cells (row (dig 20 b)) 24) = W
  have hm : Mem3 w W a x b := hW ▸ Mem3.made w a x b
  clear hW
  have E1 := run_eql
  have E2 := run_neq
  have E3 := run_guard
  have c14 := Lib.hid (fun a b d os => Calls.regrown_of (minus_all a b (grow (redrawn W d) os)))
  have c16 := Lib.hid (fun a b d os => Calls.regrown_of (less_all a b (grow (redrawn W d) os)))
  have H : Hid (openB a x b = (!eqB x a && (eqB a b || lessB (sub x a) (sub b a)))) := rfl
  cases h1 : eqB x a <;> cases h2 : eqB a b
  all_goals
    refine wp_region_quiet_below (by kernel_rfl) (by kernel_rfl) ?_
    repeat (first
      | go_big_quiet_skip
      | (go_big_quiet_want
         first
         | (first | refine q_load _ rfl _ _ rfl hm.a ?_ | refine q_load _ rfl _ _ rfl hm.x ?_ | refine q_load _ rfl _ _ rfl hm.b ?_
            simp only [Act.put, List.setIfInBounds_toArray, List.set_cons_succ, List.set_cons_zero]
            go_big_quiet_on)
         | (go_big_quiet_op
            first | go_big_quiet_on | go_big_quiet_call (first | exact c14.out _ _ _ _ | exact c16.out _ _ _ _))))
    refine wpQuiet_nil ?_
    intro _ hw'
    obtain ⟨⟨dq, osq⟩, hw''⟩ := hw'
    subst hw''
    have HB : Hid (Below w.heap.size w (grow (redrawn W dq) osq)) := hm.below.trans ((below_regrown W dq osq).mono hm.below.size)
    go_wp2
    go_ret
    refine ⟨?_, HB.out⟩
    simp only [H.out, h1, h2, Bool.not_true, Bool.not_false, Bool.true_and, Bool.false_and, Bool.true_or, Bool.false_or] <;> rfl

theorem refOpen_all (a x b : Nat) (w : World) : Calls Try.prog 58 #[idv a, idv x, idv b] w fun e w' => e = .returned (.bool (openB a x b)) ∧ Below w.heap.size w w' := by
  rw [show idv a = .agg (row (dig 20 a)) from rfl, show idv x = .agg (row (dig 20 x)) from rfl, show idv b = .agg (row (dig 20 b)) from rfl]
  go_enter Try.func58, Try.ntmps58
  go_upto_region 1 with (fail)
  generalize hW : ((w.alloc (.cells (row (dig 20 a)) 24)).alloc (.cells (row (dig 20 x)) 24)).alloc (.cells (row (dig 20 b)) 24) = W
  have hm : Mem3 w W a x b := hW ▸ Mem3.made w a x b
  clear hW
  have E1 := run_eql
  have E2 := run_neq
  have E3 := run_guard
  have H : Hid (openB a x b = (!eqB x a && (eqB a b || lessB (sub x a) (sub b a)))) := rfl
  cases h1 : eqB x a <;> cases h2 : eqB a b
  all_goals
    go_wp2_with (first | refine wpList_load_n rfl _ rfl _ rfl _ hm.a ?_ | refine wpList_load_n rfl _ rfl _ rfl _ hm.x ?_ | refine wpList_load_n rfl _ rfl _ rfl _ hm.b ?_)
    try
      refine wp_region_quiet_below (by kernel_rfl) (by kernel_rfl) ?_
      have c15 := Lib.hid (fun a b d os => Calls.regrown_of (refMinus_all a b (grow (redrawn W d) os)))
      have c17 := Lib.hid (fun a b d os => Calls.regrown_of (refLess_all a b (grow (redrawn W d) os)))
      repeat (first
        | go_big_quiet_skip
        | (go_big_quiet_want
           first
           | (first | refine q_load _ rfl _ _ rfl hm.a ?_ | refine q_load _ rfl _ _ rfl hm.x ?_ | refine q_load _ rfl _ _ rfl hm.b ?_
              simp only [Act.put, List.setIfInBounds_toArray, List.set_cons_succ, List.set_cons_zero]
              go_big_quiet_on)
           | (go_big_quiet_op
              first | go_big_quiet_on | go_big_quiet_call (first | exact c15.out _ _ _ _ | exact c17.out _ _ _ _))))
      refine wpQuiet_nil ?_
      intro _ hw'
      obtain ⟨⟨dq, osq⟩, hw''⟩ := hw'
      subst hw''
      have HB : Hid (Below w.heap.size w (grow (redrawn W dq) osq)) := hm.below.trans ((below_regrown W dq osq).mono hm.below.size)
      go_wp2
    go_ret
    refine ⟨?_, by first | exact HB.out | exact hm.below⟩
    simp only [H.out, h1, h2, Bool.not_true, Bool.not_false, Bool.true_and, Bool.false_and, Bool.true_or, Bool.false_or] <;> rfl

theorem half_all (a x b : Nat) (w : World) : Calls Try.prog 49 #[idv a, idv x, idv b] w fun e w' => e = .returned (.bool (halfB a x b)) ∧ Below w.heap.size w w' := by
  rw [show idv a = .agg (row (dig 20 a)) from rfl, show idv x = .agg (row (dig 20 x)) from rfl, show idv b = .agg (row (dig 20 b)) from rfl]
  go_enter Try.func49, Try.ntmps49
  go_upto_region 1 with (fail)
  generalize hW : ((w.alloc (.cells (row (dig 20 a)) 24)).alloc (.cells (row (dig 20 x)) 24)).alloc (.cells (row (dig 20 b)) 24) = W
  have hm : Mem3 w W a x b := hW ▸ Mem3.made w a x b
  clear hW
  have E1 := run_eql
  have E2 := run_neq
  have E3 := run_guard
  have H : Hid (halfB a x b = (eqB x b || openB a x b)) := rfl
  cases h1 : eqB x b
  all_goals
    go_wp2_with (first | refine wpList_load_w rfl _ rfl _ rfl _ hm.a ?_ | refine wpList_load_w rfl _ rfl _ rfl _ hm.x ?_ | refine wpList_load_w rfl _ rfl _ rfl _ hm.b ?_ | (go_at_call 52; refine (open_all _ _ _ _).mono ?_; rintro e w' ⟨rfl, hb⟩; have HB : Hid (Below w.heap.size w w') := hm.below.trans (hb.mono hm.below.size); clear hb))
    go_ret
    refine ⟨?_, by first | exact HB.out | exact hm.below⟩
    simp only [H.out, h1, Bool.true_or, Bool.false_or] <;> rfl

theorem refHalf_all (a x b : Nat) (w : World) : Calls Try.prog 55 #[idv a, idv x, idv b] w fun e w' => e = .returned (.bool (halfB a x b)) ∧ Below w.heap.size w w' := by
  rw [show idv a = .agg (row (dig 20 a)) from rfl, show idv x = .agg (row (dig 20 x)) from rfl, show idv b = .agg (row (dig 20 b)) from rfl]
  go_enter Try.func55, Try.ntmps55
  go_upto_region 1 with (fail)
  generalize hW : ((w.alloc (.cells (row (dig 20 a)) 24)).alloc (.cells (row (dig 20 x)) 24)).alloc (.cells (row (dig 20 b)) 24) = W
  have hm : Mem3 w W a x b := hW ▸ Mem3.made w a x b
  clear hW
  have E1 := run_eql
  have E2 := run_neq
  have E3 := run_guard
  have H : Hid (halfB a x b = (eqB x b || openB a x b)) := rfl
  cases h1 : eqB x b
  all_goals
    go_wp2_with (first | refine wpList_load_w rfl _ rfl _ rfl _ hm.a ?_ | refine wpList_load_w rfl _ rfl _ rfl _ hm.x ?_ | refine wpList_load_w rfl _ rfl _ rfl _ hm.b ?_ | (go_at_call 58; refine (refOpen_all _ _ _ _).mono ?_; rintro e w' ⟨rfl, hb⟩; have HB : Hid (Below w.heap.size w w') := hm.below.trans (hb.mono hm.below.size); clear hb))
    go_ret
    refine ⟨?_, by first | exact HB.out | exact hm.below⟩
    simp only [H.out, h1, Bool.true_or, Bool.false_or] <;> rfl
end Go.Proofs.Ytfajfmcabpmchaa
