/- A message is the same as itself. -/
import Derived.Test.YtbjjbcjapkmnfaaBagHas
import Derived.Laws.StructEq
namespace Go.Proofs.Ytbjjbcjapkmnfaa
open Go Go.RowKit Go.Sort

theorem fieldsM : Try.prog.underlying 33 = some (.struct (Try.prog.fieldsOf 33)) := by kernel_rfl
theorem heldM : Try.prog.stoodInHeld 33 = false := by kernel_rfl
theorem guardM : Try.prog.eqGuardType Try.prog.depth 33 = false := by kernel_rfl
theorem fieldsOfM : (Try.prog.fieldsOf 33).toList.map (fun f => (f.name, f.type, f.offset)) = [("From", 3, 0), ("To", 3, 1), ("Body", 9, 2)] := by kernel_rfl
theorem run_part0 (m : Ml) (w : World) : (Go.part 3 (mlC m) 0).run Try.prog w = .ok (.int .i64 m.fr) w := by
  have ha : (isAgg 3).run Try.prog w = .ok false w := by
    unfold isAgg
    rw [Sem.run_bind, run_underlying Try.underlying3 w]
    rfl
  simp [Go.part, ha, mlC]
theorem run_part1 (m : Ml) (w : World) : (Go.part 3 (mlC m) 1).run Try.prog w = .ok (.int .i64 m.to) w := by
  have ha : (isAgg 3).run Try.prog w = .ok false w := by
    unfold isAgg
    rw [Sem.run_bind, run_underlying Try.underlying3 w]
    rfl
  simp [Go.part, ha, mlC]
theorem run_part2 (m : Ml) (w : World) : (Go.part 9 (mlC m) 2).run Try.prog w = .ok (.string m.bd) w := by
  have ha : (isAgg 9).run Try.prog w = .ok false w := by
    unfold isAgg
    rw [Sem.run_bind, run_underlying Try.underlying9 w]
    rfl
  simp [Go.part, ha, mlC]
theorem run_equalIn_ml (d : Nat) (m : Ml) (w : World) : (Op.equalIn (d + 2) 33 (.agg (mlC m)) (.agg (mlC m))).run Try.prog w = .ok true w := by
  rw [run_equalIn_agg w (d + 1) 33 _ _ fieldsM heldM]
  have h := fieldsOfM
  obtain ⟨f, g, k, hfg⟩ : ∃ f g k, (Try.prog.fieldsOf 33).toList = [f, g, k] := by
    have hl := congrArg List.length h
    rw [List.length_map] at hl
    match hq : (Try.prog.fieldsOf 33).toList, hl with
    | [f, g, k], _ => exact ⟨f, g, k, rfl⟩
  rw [hfg] at h ⊢
  simp only [List.map_cons, List.map_nil, List.cons.injEq, Prod.mk.injEq, and_true] at h
  obtain ⟨⟨f1, f2, f3⟩, ⟨g1, g2, g3⟩, k1, k2, k3⟩ := h
  simp only [Op.eqFields, f1, f2, f3, g1, g2, g3, k1, k2, k3]
  simp [run_part0, run_part1, run_part2, run_equalIn_int w d 3 .i64 .i64 _ _ Try.underlying3, run_equalIn_string w d 9 _ _ Try.underlying9, Sem.run_bind, Result.andThen_ok]
theorem run_eql_ml (m : Ml) (w : World) : (binOp .eql 33 (.agg (mlC m)) (.agg (mlC m))).run Try.prog w = .ok (.bool true) w := by
  rw [run_eql_struct, run_equalIn_ml 9998]
  rfl
theorem run_neq_ml (m : Ml) (w : World) : (binOp .neq 33 (.agg (mlC m)) (.agg (mlC m))).run Try.prog w = .ok (.bool false) w := by
  rw [run_neq_struct, run_equalIn_ml 9998]
  rfl
theorem o_eqlM {o : Oper} {a : Act} {w : World} {K : Act → World → Prop} {Q : Exit → Act → World → Prop} (u v : Operand) (ho : o.op = .binOp .eql 33 u v 33)
    (m : Ml) (hx : a.eval u = .agg (mlC m)) (hy : a.eval v = .agg (mlC m)) (h : K (a.put o.dst (.bool true)) w) : o.wp Try.prog a w K Q := by
  unfold Oper.wp execOp
  simp only [ho, hx, hy, Sem.run_bind, run_eqGuard_agg w .eql 33 u v _ _ guardM, run_eql_ml, Sem.run_pure, Result.andThen_ok]
  exact h
theorem o_neqM {o : Oper} {a : Act} {w : World} {K : Act → World → Prop} {Q : Exit → Act → World → Prop} (u v : Operand) (ho : o.op = .binOp .neq 33 u v 33)
    (m : Ml) (hx : a.eval u = .agg (mlC m)) (hy : a.eval v = .agg (mlC m)) (h : K (a.put o.dst (.bool false)) w) : o.wp Try.prog a w K Q := by
  unfold Oper.wp execOp
  simp only [ho, hx, hy, Sem.run_bind, run_eqGuard_agg w .neq 33 u v _ _ guardM, run_neq_ml, Sem.run_pure, Result.andThen_ok]
  exact h
theorem p_eqlM {ops : Array Oper} {rest : List Oper} {o : Oper} {a : Act} {w : World} {Q : Exit → Act → World → Prop} (hgd : o.guard = none) (u v : Operand) (ho : o.op = .binOp .eql 33 u v 33)
    (m : Ml) (hx : a.eval u = .agg (mlC m)) (hy : a.eval v = .agg (mlC m)) (h : wpList Try.prog ops Q rest (a.put o.dst (.bool true)) w) : wpList Try.prog ops Q (o :: rest) a w :=
  wpList_plain hgd fun _ hK => o_eqlM u v ho m hx hy (hK _ _ h)
theorem o_loadM {o : Oper} {a : Act} {w : World} {K : Act → World → Prop} {Q : Exit → Act → World → Prop} (x : Operand) (ho : o.op = .load 33 x)
    (g : Nat) (hx : a.eval x = .pointer (some ⟨g, 0, none⟩)) (m : Ml) (hg : Blk w g (mlC m) 33) (h : K (a.put o.dst (.agg (mlC m))) w) : o.wp Try.prog a w K Q :=
  wp_load_row 33 x ho g hx 33 _ (0, 0) _ hg Try.underlying33 rfl sizeM h
/-! in a region that draws its order -/
theorem q_loadM {W : World} {o : Oper} {a : Act} {K : Act → Prop} (x : Operand) (ho : o.op = .load 33 x) (g : Nat) (hx : a.eval x = .pointer (some ⟨g, 0, none⟩)) (m : Ml)
    (hg : Blk W g (mlC m) 33) (hk : K (a.put o.dst (.agg (mlC m)))) : o.quiet Try.prog a (fun w' => ∃ p : Regrown, w' = grow (redrawn W p.d) p.os) K :=
  q_row 33 x ho g hx (mlC m) 33 _ hg Try.underlying33 rfl sizeM hk
theorem range_lt {w : World} {g o : Nat} {cs : List Value} (h : w.rangeAt g o cs) (hn : cs ≠ []) : g < w.heap.size := by
  cases cs with
  | nil => exact absurd rfl hn
  | cons v r => exact World.block_lt_of_cell? w _ (h 0 v rfl)
theorem range_bel {w w' : World} {g o B : Nat} {cs : List Value} (h : w.rangeAt g o cs) (hb : Below B w w') (hg : g < B) : w'.rangeAt g o cs := fun j v hv => by
  have hc := h j v hv
  exact (World.cell?_of_block (a := ⟨g, o + j, none⟩) (hb.block g hg)).trans hc
theorem q_midM {W : World} {o : Oper} {a : Act} {K : Act → Prop} (x : Operand) (ho : o.op = .load 33 x) (g i : Nat) (hx : a.eval x = .pointer (some ⟨g, i, none⟩)) (m : Ml)
    (hg : W.rangeAt g i (mlC m).toList) (hk : K (a.put o.dst (.agg (mlC m)))) : o.quiet Try.prog a (fun w' => ∃ p : Regrown, w' = grow (redrawn W p.d) p.os) K := by
  refine ⟨.agg (mlC m), ?_, hk⟩
  rintro w' ⟨p, rfl⟩
  have hg' : (grow (redrawn W p.d) p.os).rangeAt g i (mlC m).toList := range_bel hg (below_regrown W p.d p.os) (range_lt hg (by simp [mlC]))
  unfold Oper.quietAt execOp
  simp only [ho, hx, Instr.loadAt, Instr.sureAddr, Sem.run_bind, run_loadVar_mid _ g i 33 (mlC m).toList _ hg' Try.underlying33 rfl sizeM, Sem.run_pure, Result.andThen_ok]
  exact ⟨rfl, rfl⟩
theorem q_neqM {C : World → Prop} {o : Oper} {a : Act} {K : Act → Prop} (u v : Operand) (ho : o.op = .binOp .neq 33 u v 33) (m : Ml) (hx : a.eval u = .agg (mlC m)) (hy : a.eval v = .agg (mlC m))
    (hk : K (a.put o.dst (.bool false))) : o.quiet Try.prog a C K := by
  refine ⟨.bool false, ?_, hk⟩
  intro w' _
  unfold Oper.quietAt execOp
  simp only [ho, hx, hy, Sem.run_bind, run_eqGuard_agg w' .neq 33 u v _ _ guardM, run_neq_ml, Sem.run_pure, Result.andThen_ok]
  exact ⟨rfl, rfl⟩
theorem q_eqlM {C : World → Prop} {o : Oper} {a : Act} {K : Act → Prop} (u v : Operand) (ho : o.op = .binOp .eql 33 u v 33) (m : Ml) (hx : a.eval u = .agg (mlC m)) (hy : a.eval v = .agg (mlC m))
    (hk : K (a.put o.dst (.bool true))) : o.quiet Try.prog a C K := by
  refine ⟨.bool true, ?_, hk⟩
  intro w' _
  unfold Oper.quietAt execOp
  simp only [ho, hx, hy, Sem.run_bind, run_eqGuard_agg w' .eql 33 u v _ _ guardM, run_eql_ml, Sem.run_pure, Result.andThen_ok]
  exact ⟨rfl, rfl⟩
/-- a region that draws, and only makes memory -/
theorem quiet_end {W w' : World} (h : ∃ p : Regrown, w' = grow (redrawn W p.d) p.os) : Below W.heap.size W w' := by
  obtain ⟨⟨d, os⟩, rfl⟩ := h
  exact below_regrown W d os
theorem step {w a b : World} (h : Below w.heap.size w a) (k : Below a.heap.size a b) : Below w.heap.size w b := h.trans (k.mono h.size)
end Go.Proofs.Ytbjjbcjapkmnfaa
