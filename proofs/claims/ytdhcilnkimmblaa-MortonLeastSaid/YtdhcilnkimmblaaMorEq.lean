/- Rectangles are compared, in plain regions and in those that draw their order. -/
import Derived.Test.YtdhcilnkimmblaaMorRect
import Derived.Laws.StructEq
namespace Go.Proofs.Ytdhcilnkimmblaa
open Go.RowKit Go.Sort

/-- four numbers, and whether two such rows are the same -/
structure Four where
  a : Nat
  b : Nat
  c : Nat
  d : Nat
def Four.cells (f : Four) : Array Value := rectc f.a f.b f.c f.d
def eqR (f g : Four) : Bool := (((f.a : Int) == (g.a : Int)) && (((f.b : Int) == (g.b : Int)) && (((f.c : Int) == (g.c : Int)) && ((f.d : Int) == (g.d : Int)))))
theorem eqR_self (f : Four) : eqR f f = true := by simp [eqR]
theorem fieldsRect : Try.prog.underlying 25 = some (.struct (Try.prog.fieldsOf 25)) := by kernel_rfl
theorem heldRect : Try.prog.stoodInHeld 25 = false := by kernel_rfl
theorem guardRect : Try.prog.eqGuardType Try.prog.depth 25 = false := by kernel_rfl
theorem fieldsOfRect : (Try.prog.fieldsOf 25).toList.map (fun f => (f.name, f.type, f.offset)) = [("X1", 22, 0), ("X2", 22, 1), ("Y1", 22, 2), ("Y2", 22, 3)] := by kernel_rfl
theorem run_partR (cs : Array Value) (i n : Nat) (h : cs[i]? = some (.int .u32 (n : Int))) (w : World) : (Go.part 22 cs i).run Try.prog w = .ok (.int .u32 (n : Int)) w := by
  have ha : (isAgg 22).run Try.prog w = .ok false w := by
    unfold isAgg
    rw [Sem.run_bind, run_underlying Try.underlying22 w]
    rfl
  simp [Go.part, ha, h]
theorem run_equalIn_rect (d : Nat) (f g : Four) (w : World) : (Op.equalIn (d + 2) 25 (.agg f.cells) (.agg g.cells)).run Try.prog w = .ok (eqR f g) w := by
  rw [run_equalIn_agg w (d + 1) 25 _ _ fieldsRect heldRect]
  have h := fieldsOfRect
  obtain ⟨f0, f1, f2, f3, hfg⟩ : ∃ f0 f1 f2 f3, (Try.prog.fieldsOf 25).toList = [f0, f1, f2, f3] := by
    have hl := congrArg List.length h
    rw [List.length_map] at hl
    match hq : (Try.prog.fieldsOf 25).toList, hl with
    | [f0, f1, f2, f3], _ => exact ⟨f0, f1, f2, f3, rfl⟩
  rw [hfg] at h ⊢
  simp only [List.map_cons, List.map_nil, List.cons.injEq, Prod.mk.injEq, and_true] at h
  obtain ⟨⟨a1, a2, a3⟩, ⟨b1, b2, b3⟩, ⟨c1, c2, c3⟩, d1, d2, d3⟩ := h
  have p0 : ∀ (f : Four) (w : World), (Go.part 22 f.cells 0).run Try.prog w = .ok (.int .u32 (f.a : Int)) w := fun f w => run_partR _ 0 _ rfl w
  have p1 : ∀ (f : Four) (w : World), (Go.part 22 f.cells 1).run Try.prog w = .ok (.int .u32 (f.b : Int)) w := fun f w => run_partR _ 1 _ rfl w
  have p2 : ∀ (f : Four) (w : World), (Go.part 22 f.cells 2).run Try.prog w = .ok (.int .u32 (f.c : Int)) w := fun f w => run_partR _ 2 _ rfl w
  have p3 : ∀ (f : Four) (w : World), (Go.part 22 f.cells 3).run Try.prog w = .ok (.int .u32 (f.d : Int)) w := fun f w => run_partR _ 3 _ rfl w
  unfold eqR
  simp only [Op.eqFields, a1, a2, a3, b1, b2, b3, c1, c2, c3, d1, d2, d3]
  simp only [ne_eq, String.reduceEq, not_false_eq_true, if_true, Sem.run_bind, p0, Result.andThen_ok, run_equalIn_int w d 22 .u32 .u32 _ _ Try.underlying22]
  generalize ((f.a : Int) == (g.a : Int)) = r0
  generalize hR1 : ((f.b : Int) == (g.b : Int)) = r1
  generalize hR2 : ((f.c : Int) == (g.c : Int)) = r2
  generalize hR3 : ((f.d : Int) == (g.d : Int)) = r3
  cases r0
  · simp
  · simp only [Bool.not_true, Bool.false_eq_true, if_false, Sem.run_bind, p1, Result.andThen_ok, run_equalIn_int w d 22 .u32 .u32 _ _ Try.underlying22, hR1]
    cases r1
    · simp
    · simp only [Bool.not_true, Bool.false_eq_true, if_false, Sem.run_bind, p2, Result.andThen_ok, run_equalIn_int w d 22 .u32 .u32 _ _ Try.underlying22, hR2]
      cases r2
      · simp
      · simp only [Bool.not_true, Bool.false_eq_true, if_false, Sem.run_bind, p3, Result.andThen_ok, run_equalIn_int w d 22 .u32 .u32 _ _ Try.underlying22, hR3]
        cases r3 <;> simp
theorem run_eql_rect (f g : Four) (w : World) : (binOp .eql 25 (.agg f.cells) (.agg g.cells)).run Try.prog w = .ok (.bool (eqR f g)) w := by
  rw [run_eql_struct, run_equalIn_rect 9998]
  rfl
theorem q_eqlR {C : World → Prop} {o : Oper} {a : Act} {K : Act → Prop} (x y : Operand) (ho : o.op = .binOp .eql 25 x y 25) (f g : Four) (hx : a.eval x = .agg f.cells) (hy : a.eval y = .agg g.cells) {r : Bool} (hr : eqR f g = r)
    (hk : K (a.put o.dst (.bool r))) : o.quiet Try.prog a C K := by
  refine ⟨.bool r, ?_, hk⟩
  intro w' _
  unfold Oper.quietAt execOp
  simp only [ho, hx, hy, Sem.run_bind, run_eqGuard_agg w' .eql 25 x y _ _ guardRect, run_eql_rect, hr, Sem.run_pure, Result.andThen_ok]
  exact ⟨rfl, rfl⟩
theorem o_eqlR {o : Oper} {a : Act} {w : World} {K : Act → World → Prop} {Q : Exit → Act → World → Prop} (x y : Operand) (ho : o.op = .binOp .eql 25 x y 25)
    (f g : Four) (hx : a.eval x = .agg f.cells) (hy : a.eval y = .agg g.cells) {r : Bool} (hr : eqR f g = r) (h : K (a.put o.dst (.bool r)) w) : o.wp Try.prog a w K Q := by
  unfold Oper.wp execOp
  simp only [ho, hx, hy, Sem.run_bind, run_eqGuard_agg w .eql 25 x y _ _ guardRect, run_eql_rect, hr, Sem.run_pure, Result.andThen_ok]
  exact h
end Go.Proofs.Ytdhcilnkimmblaa
