/- Sums and differences on the ring, as numbers; two places that are compared in a region of loads and calls. -/
import Derived.Test.YteljhengfeebfaaPlaced
namespace Go.Proofs.Yteljhengfeebfaa
open Go.RowKit Go.Sort

theorem sums_mod (a b : Nat) : sub (a + b) b % M = a % M := by
  unfold sub
  have hp := M_pos
  have hb := Nat.mod_lt b hp
  rw [show a + b + M - b % M = a + M * (b / M + 1) by have := Nat.div_add_mod b M; rw [Nat.mul_add]; omega, Nat.add_mul_mod_self_left]
theorem back_mod (a b : Nat) : (sub a b + b) % M = a % M := by
  unfold sub
  have hp := M_pos
  have hb := Nat.mod_lt b hp
  rw [show a + M - b % M + b = a + M * (b / M + 1) by have := Nat.div_add_mod b M; rw [Nat.mul_add]; omega, Nat.add_mul_mod_self_left]
theorem self_mod (a : Nat) : sub a a % M = 0 % M := by
  have := sums_mod 0 a
  rwa [Nat.zero_add] at this
theorem eqB_of {a b : Nat} (h : a % M = b % M) : eqB a b = true := by unfold eqB; exact decide_eq_true h

theorem q_eql {C : World → Prop} {o : Oper} {a : Act} {K : Act → Prop} (x y : Operand) (ho : o.op = .binOp .eql 23 x y 23) (n m : Nat) (hx : a.eval x = idv n) (hy : a.eval y = idv m) {r : Bool} (hr : eqB n m = r)
    (hk : K (a.put o.dst (.bool r))) : o.quiet Try.prog a C K := by
  refine ⟨.bool r, ?_, hk⟩
  intro w' _
  unfold Oper.quietAt execOp
  simp only [ho, hx, hy, Sem.run_bind, run_guard, run_eql, hr, Sem.run_pure, Result.andThen_ok]
  exact ⟨rfl, rfl⟩

theorem q_neq {C : World → Prop} {o : Oper} {a : Act} {K : Act → Prop} (x y : Operand) (ho : o.op = .binOp .neq 23 x y 23) (n m : Nat) (hx : a.eval x = idv n) (hy : a.eval y = idv m) {r : Bool} (hr : (!eqB n m) = r)
    (hk : K (a.put o.dst (.bool r))) : o.quiet Try.prog a C K := by
  refine ⟨.bool r, ?_, hk⟩
  intro w' _
  unfold Oper.quietAt execOp
  simp only [ho, hx, hy, Sem.run_bind, run_guard, run_neq, hr, Sem.run_pure, Result.andThen_ok]
  exact ⟨rfl, rfl⟩

end Go.Proofs.Yteljhengfeebfaa
