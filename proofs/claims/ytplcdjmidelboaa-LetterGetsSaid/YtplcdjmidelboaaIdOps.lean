/- Operations on places: a block that holds one, loads, stores, comparisons, in plain regions and in regions that draw their order. -/
import Derived.Deep.WholeRow
import Derived.Test.YtplcdjmidelboaaIdEq
namespace Go.Proofs.Ytplcdjmidelboaa
open Go.RowKit Go.Sort

/-- a place lies in a block -/
def At (w : World) (g n : Nat) : Prop := w.heap[g]? = some (.cells (row (dig 20 n)) 23 (0, 0))
theorem At.lt {w : World} {g n : Nat} (h : At w g n) : g < w.heap.size := by
  rcases Nat.lt_or_ge g w.heap.size with h' | h'
  · exact h'
  · unfold At at h; rw [Array.getElem?_eq_none h'] at h; cases h
theorem At.below {w w' : World} {g n : Nat} (h : At w g n) (hb : Below w.heap.size w w') : At w' g n := (hb.block g h.lt).trans h
theorem At.alloc {w : World} {g n : Nat} (h : At w g n) (o : Obj) : At (w.alloc o) g n := (Below.heap_alloc w o g h.lt).trans h
theorem At.new (w : World) (n : Nat) : At (w.alloc (.cells (row (dig 20 n)) 23)) w.heap.size n := heap_alloc_new _ _

theorem wpList_store_new {ops : Array Oper} {rest : List Oper} {o : Oper} {a : Act} {w : World} {Q : Exit → Act → World → Prop} {Z : Array Value} (hz : Z.size = 20) (hgd : o.guard = none) (x y : Operand) (ho : o.op = .store 23 x y)
    (n : Nat) (hx : a.eval x = .pointer (some ⟨w.heap.size, 0, none⟩)) (hy : a.eval y = idv n)
    (h : wpList Try.prog ops Q rest (a.put o.dst undef) (w.alloc (.cells (row (dig 20 n)) 23))) : wpList Try.prog ops Q (o :: rest) a (w.alloc (.cells Z 23)) := by
  refine wpList_store_row hgd 23 x y ho w.heap.size (row (dig 20 n)) hx hy 23 Z (heap_alloc_new _ _) (by rw [row_size, dig_length]; exact Try.info23) (by rw [row_size, dig_length, hz]) (row_one _) ?_
  rw [World.setRow_alloc_new]
  exact h

theorem eqB_of {a b : Nat} (h : a % M = b % M) : eqB a b = true := by unfold eqB; exact decide_eq_true h

theorem q_eql {C : World → Prop} {o : Oper} {a : Act} {K : Act → Prop} (x y : Operand) (ho : o.op = .binOp .eql 23 x y 23) (n m : Nat) (hx : a.eval x = idv n) (hy : a.eval y = idv m) {r : Bool} (hr : eqB n m = r)
    (hk : K (a.put o.dst (.bool r))) : o.quiet Try.prog a C K := by
  refine ⟨.bool r, ?_, hk⟩
  intro w' _
  unfold Oper.quietAt execOp
  simp only [ho, hx, hy, Sem.run_bind, run_guard, run_eql, hr, Sem.run_pure, Result.andThen_ok]
  exact ⟨rfl, rfl⟩

theorem q_neq {C : World → Prop} {o : Oper} {a : Act} {K : Act → Prop} (x y : Operand) (ho : o.op = .binOp .neq 23 x y 23) (n m : Nat) (hx : a.eval x = idv n) (hy : a.eval y = idv m) {r : Bool} (hr : (!eqB n m) = r)
    (hk : K (a.put o.dst (.bool r))) : o.quiet Try.prog a C K := by
  refine ⟨.bool r, ?_, hk⟩
  intro w' _
  unfold Oper.quietAt execOp
  simp only [ho, hx, hy, Sem.run_bind, run_guard, run_neq, hr, Sem.run_pure, Result.andThen_ok]
  exact ⟨rfl, rfl⟩


theorem q_at {W : World} {o : Oper} {a : Act} {K : Act → Prop} (x : Operand) (ho : o.op = .load 23 x) (g n : Nat) (hx : a.eval x = .pointer (some ⟨g, 0, none⟩))
    (hg : At W g n) (hk : K (a.put o.dst (idv n))) : o.quiet Try.prog a (fun w' => ∃ p : Regrown, w' = grow (redrawn W p.d) p.os) K := q_load x ho g n hx hg hk
/-! one operation that is wanted -/
theorem o_load {o : Oper} {a : Act} {w : World} {K : Act → World → Prop} {Q : Exit → Act → World → Prop} (x : Operand) (ho : o.op = .load 23 x)
    (g : Nat) (hx : a.eval x = .pointer (some ⟨g, 0, none⟩)) (n : Nat) (hg : At w g n) (h : K (a.put o.dst (idv n)) w) : o.wp Try.prog a w K Q :=
  wp_load_row 23 x ho g hx 23 _ (0, 0) _ hg Try.underlying23 rfl (by rw [row_size, dig_length]; exact Try.info23) h
theorem o_eql {o : Oper} {a : Act} {w : World} {K : Act → World → Prop} {Q : Exit → Act → World → Prop} (x y : Operand) (ho : o.op = .binOp .eql 23 x y 23)
    (n m : Nat) (hx : a.eval x = idv n) (hy : a.eval y = idv m) {r : Bool} (hr : eqB n m = r) (h : K (a.put o.dst (.bool r)) w) : o.wp Try.prog a w K Q := by
  unfold Oper.wp execOp
  simp only [ho, hx, hy, Sem.run_bind, run_guard, run_eql, hr, Sem.run_pure, Result.andThen_ok]
  exact h
theorem o_neq {o : Oper} {a : Act} {w : World} {K : Act → World → Prop} {Q : Exit → Act → World → Prop} (x y : Operand) (ho : o.op = .binOp .neq 23 x y 23)
    (n m : Nat) (hx : a.eval x = idv n) (hy : a.eval y = idv m) {r : Bool} (hr : (!eqB n m) = r) (h : K (a.put o.dst (.bool r)) w) : o.wp Try.prog a w K Q := by
  unfold Oper.wp execOp
  simp only [ho, hx, hy, Sem.run_bind, run_guard, run_neq, hr, Sem.run_pure, Result.andThen_ok]
  exact h
/-! the first operation of a list, if it is not guarded -/
theorem p_load {ops : Array Oper} {rest : List Oper} {o : Oper} {a : Act} {w : World} {Q : Exit → Act → World → Prop} (hgd : o.guard = none) (x : Operand) (ho : o.op = .load 23 x)
    (g : Nat) (hx : a.eval x = .pointer (some ⟨g, 0, none⟩)) (n : Nat) (hg : At w g n)
    (h : wpList Try.prog ops Q rest (a.put o.dst (idv n)) w) : wpList Try.prog ops Q (o :: rest) a w := wpList_plain hgd fun _ hK => o_load x ho g hx n hg (hK _ _ h)
theorem p_eql {ops : Array Oper} {rest : List Oper} {o : Oper} {a : Act} {w : World} {Q : Exit → Act → World → Prop} (hgd : o.guard = none) (x y : Operand) (ho : o.op = .binOp .eql 23 x y 23)
    (n m : Nat) (hx : a.eval x = idv n) (hy : a.eval y = idv m) {r : Bool} (hr : eqB n m = r) (h : wpList Try.prog ops Q rest (a.put o.dst (.bool r)) w) : wpList Try.prog ops Q (o :: rest) a w :=
  wpList_plain hgd fun _ hK => o_eql x y ho n m hx hy hr (hK _ _ h)
theorem p_neq {ops : Array Oper} {rest : List Oper} {o : Oper} {a : Act} {w : World} {Q : Exit → Act → World → Prop} (hgd : o.guard = none) (x y : Operand) (ho : o.op = .binOp .neq 23 x y 23)
    (n m : Nat) (hx : a.eval x = idv n) (hy : a.eval y = idv m) {r : Bool} (hr : (!eqB n m) = r) (h : wpList Try.prog ops Q rest (a.put o.dst (.bool r)) w) : wpList Try.prog ops Q (o :: rest) a w :=
  wpList_plain hgd fun _ hK => o_neq x y ho n m hx hy hr (hK _ _ h)
theorem eqB_self (a : Nat) : eqB a a = true := eqB_of rfl
theorem neqB_self (a : Nat) : (!eqB a a) = false := by rw [eqB_self]; rfl
/-- a call that tells a bool -/
def Tells (f : FuncId) (args : Array Value) (r : Bool) : Prop := ∀ w : World, Calls Try.prog f args w fun e w' => e = .returned (.bool r) ∧ Below w.heap.size w w'
theorem Tells.grown {f : FuncId} {args : Array Value} {r : Bool} (h : Tells f args r) {W : World} (d : Nat) (os : Array Obj) : Calls Try.prog f args (grow (redrawn W d) os) fun e w'' => e = .returned (.bool r) ∧ ∃ p : Regrown, w'' = grow (redrawn W p.d) p.os :=
  Calls.regrown_of (h _)
theorem Tells.calls {f : FuncId} {args : Array Value} {r : Bool} (h : Tells f args r) (w : World) : Calls Try.prog f args w fun e w' => e = .returned (.bool r) ∧ Below w.heap.size w w' := h w
end Go.Proofs.Ytplcdjmidelboaa
