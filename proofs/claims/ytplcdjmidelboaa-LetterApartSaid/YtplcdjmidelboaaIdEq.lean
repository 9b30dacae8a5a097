/- Two places are compared, and loaded, each told by any number. -/
import Derived.Test.YtplcdjmidelboaaEq
import Derived.Test.YtplcdjmidelboaaBlk
namespace Go.Proofs.Ytplcdjmidelboaa
open Go.RowKit Go.Sort

theorem M_pos : 0 < M := Nat.pow_pos (by omega)
theorem idv_mod (n : Nat) : idv (n % M) = idv n := by unfold idv M; rw [dig_mod]
theorem idv_eq {a b : Nat} (h : a % M = b % M) : idv a = idv b := by rw [← idv_mod a, h, idv_mod]

def eqB (a b : Nat) : Bool := decide (a % M = b % M)
theorem run_eql (a b : Nat) (w : World) : (binOp .eql 23 (idv a) (idv b)).run Try.prog w = .ok (.bool (eqB a b)) w := by
  rw [← idv_mod a, ← idv_mod b]; exact run_eql_id _ _ (Nat.mod_lt _ M_pos) (Nat.mod_lt _ M_pos) w
theorem run_neq (a b : Nat) (w : World) : (binOp .neq 23 (idv a) (idv b)).run Try.prog w = .ok (.bool (!eqB a b)) w := by
  rw [← idv_mod a, ← idv_mod b]; exact run_neq_id _ _ (Nat.mod_lt _ M_pos) (Nat.mod_lt _ M_pos) w
theorem run_guard (op : BinOp) (x y : Operand) (a b : Nat) (w : World) : (eqGuard op 23 x y (idv a) (idv b)).run Try.prog w = .ok () w := by
  unfold idv; exact run_eqGuard_agg w op 23 x y _ _ guard23

theorem run_loadAt_id (W : World) (g n : Nat) (hg : W.heap[g]? = some (.cells (row (dig 20 n)) 23 (0, 0))) (d : Nat) (os : Array Obj) :
    (Instr.loadAt 23 (.pointer (some ⟨g, 0, none⟩))).run Try.prog (grow (redrawn W d) os) = .ok (idv n) (grow (redrawn W d) os) := by
  have hlt : g < W.heap.size := by
    rcases Nat.lt_or_ge g W.heap.size with h | h
    · exact h
    · rw [Array.getElem?_eq_none h] at hg; cases hg
  have hg' : (grow (redrawn W d) os).heap[g]? = some (.cells (row (dig 20 n)) 23 (0, 0)) := ((below_regrown W d os).block g hlt).trans hg
  simp only [Instr.loadAt, Instr.sureAddr, Sem.run_bind, Sem.run_pure, Result.andThen_ok, run_loadVar_row _ g 23 23 _ (0, 0) _ hg' Try.underlying23 rfl (by rw [row_size, dig_length]; exact Try.info23)]
  rfl

/-- a load of a place, in every world in which nothing that was there has changed -/
theorem q_load {W : World} {o : Oper} {a : Act} {K : Act → Prop} (x : Operand) (ho : o.op = .load 23 x) (g n : Nat) (hx : a.eval x = .pointer (some ⟨g, 0, none⟩))
    (hg : W.heap[g]? = some (.cells (row (dig 20 n)) 23 (0, 0))) (hk : K (a.put o.dst (idv n))) : o.quiet Try.prog a (fun w' => ∃ p : Regrown, w' = grow (redrawn W p.d) p.os) K := by
  refine ⟨idv n, ?_, hk⟩
  rintro w' ⟨p, rfl⟩
  unfold Oper.quietAt execOp
  simp only [ho, hx, Sem.run_bind, run_loadAt_id W g n hg, Sem.run_pure, Result.andThen_ok]
  exact ⟨rfl, rfl⟩

theorem wpList_load_n {ops : Array Oper} {rest : List Oper} {o : Oper} {a : Act} {w : World} {Q : Exit → Act → World → Prop} (hgd : o.guard = none) (x : Operand) (ho : o.op = .load 23 x)
    (g : Nat) (hx : a.eval x = .pointer (some ⟨g, 0, none⟩)) (n : Nat) (hg : w.heap[g]? = some (.cells (row (dig 20 n)) 23 (0, 0)))
    (h : wpList Try.prog ops Q rest (a.put o.dst (idv n)) w) : wpList Try.prog ops Q (o :: rest) a w :=
  wpList_load_id hgd x ho g hx (dig 20 n) hg (dig_length _ _) h
end Go.Proofs.Ytplcdjmidelboaa
