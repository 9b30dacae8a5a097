/- Labels are compared, in plain regions and in those that draw their order. -/
import Derived.Test.YtgfcdkihahfnkaaLabMem
import Derived.Laws.StructEq
namespace Go.Proofs.Ytgfcdkihahfnkaa
open Go.RowKit Go.Sort

/-- whether two labels are the same -/
def eqL (n : Int) (b : Nat) (m : Int) (c : Nat) : Bool := decide (n = m ∧ b = c)
theorem eqL_self (n : Int) (b : Nat) : eqL n b n b = true := by unfold eqL; simp
theorem eqL_iff {n : Int} {b : Nat} {m : Int} {c : Nat} : eqL n b m c = true ↔ n = m ∧ b = c := by unfold eqL; simp
theorem eqL_eq (n : Int) (b : Nat) (m : Int) (c : Nat) : ((n == m) && ((b : Int) == (c : Int))) = eqL n b m c := by
  unfold eqL
  rw [Bool.eq_iff_iff]
  simp
  omega
theorem fieldsLab : Try.prog.underlying 26 = some (.struct (Try.prog.fieldsOf 26)) := by kernel_rfl
theorem heldLab : Try.prog.stoodInHeld 26 = false := by kernel_rfl
theorem guardLab : Try.prog.eqGuardType Try.prog.depth 26 = false := by kernel_rfl
theorem fieldsOfLab : (Try.prog.fieldsOf 26).toList.map (fun f => (f.name, f.type, f.offset)) = [("Len", 3, 0), ("Bits", 22, 1)] := by kernel_rfl
theorem run_partL (n : Int) (b : Nat) (w : World) : (Go.part 3 (labc n b) 0).run Try.prog w = .ok (.int .i64 n) w := by
  have ha : (isAgg 3).run Try.prog w = .ok false w := by
    unfold isAgg
    rw [Sem.run_bind, run_underlying Try.underlying3 w]
    rfl
  simp [Go.part, ha, labc]
theorem run_partB (n : Int) (b : Nat) (w : World) : (Go.part 22 (labc n b) 1).run Try.prog w = .ok (.int .u64 (b : Int)) w := by
  have ha : (isAgg 22).run Try.prog w = .ok false w := by
    unfold isAgg
    rw [Sem.run_bind, run_underlying Try.underlying22 w]
    rfl
  simp [Go.part, ha, labc]
theorem run_equalIn_lab (d : Nat) (n : Int) (b : Nat) (m : Int) (c : Nat) (w : World) : (Op.equalIn (d + 2) 26 (.agg (labc n b)) (.agg (labc m c))).run Try.prog w = .ok (eqL n b m c) w := by
  rw [run_equalIn_agg w (d + 1) 26 _ _ fieldsLab heldLab]
  have h := fieldsOfLab
  obtain ⟨f, g, hfg⟩ : ∃ f g, (Try.prog.fieldsOf 26).toList = [f, g] := by
    have hl := congrArg List.length h
    rw [List.length_map] at hl
    match hq : (Try.prog.fieldsOf 26).toList, hl with
    | [f, g], _ => exact ⟨f, g, rfl⟩
  rw [hfg] at h ⊢
  simp only [List.map_cons, List.map_nil, List.cons.injEq, Prod.mk.injEq, and_true] at h
  obtain ⟨⟨f1, f2, f3⟩, g1, g2, g3⟩ := h
  rw [← eqL_eq]
  simp only [Op.eqFields, f1, f2, f3, g1, g2, g3]
  simp only [ne_eq, String.reduceEq, not_false_eq_true, if_true, Sem.run_bind, run_partL, Result.andThen_ok, run_equalIn_int w d 3 .i64 .i64 _ _ Try.underlying3]
  generalize hB : ((b : Int) == (c : Int)) = r
  cases n == m
  · simp
  · simp only [Bool.not_true, Bool.false_eq_true, if_false, Sem.run_bind, run_partB, Result.andThen_ok, run_equalIn_int w d 22 .u64 .u64 _ _ Try.underlying22, hB]
    cases r <;> simp
theorem run_eql_lab (n : Int) (b : Nat) (m : Int) (c : Nat) (w : World) : (binOp .eql 26 (.agg (labc n b)) (.agg (labc m c))).run Try.prog w = .ok (.bool (eqL n b m c)) w := by
  rw [run_eql_struct, run_equalIn_lab 9998]
  rfl
theorem q_eqlL {C : World → Prop} {o : Oper} {a : Act} {K : Act → Prop} (x y : Operand) (ho : o.op = .binOp .eql 26 x y 26) (n : Int) (b : Nat) (m : Int) (c : Nat) (hx : a.eval x = .agg (labc n b)) (hy : a.eval y = .agg (labc m c)) {r : Bool} (hr : eqL n b m c = r)
    (hk : K (a.put o.dst (.bool r))) : o.quiet Try.prog a C K := by
  refine ⟨.bool r, ?_, hk⟩
  intro w' _
  unfold Oper.quietAt execOp
  simp only [ho, hx, hy, Sem.run_bind, run_eqGuard_agg w' .eql 26 x y _ _ guardLab, run_eql_lab, hr, Sem.run_pure, Result.andThen_ok]
  exact ⟨rfl, rfl⟩
theorem o_eqlL {o : Oper} {a : Act} {w : World} {K : Act → World → Prop} {Q : Exit → Act → World → Prop} (x y : Operand) (ho : o.op = .binOp .eql 26 x y 26)
    (n : Int) (b : Nat) (m : Int) (c : Nat) (hx : a.eval x = .agg (labc n b)) (hy : a.eval y = .agg (labc m c)) {r : Bool} (hr : eqL n b m c = r) (h : K (a.put o.dst (.bool r)) w) : o.wp Try.prog a w K Q := by
  unfold Oper.wp execOp
  simp only [ho, hx, hy, Sem.run_bind, run_eqGuard_agg w .eql 26 x y _ _ guardLab, run_eql_lab, hr, Sem.run_pure, Result.andThen_ok]
  exact h
theorem p_eqlL {ops : Array Oper} {rest : List Oper} {o : Oper} {a : Act} {w : World} {Q : Exit → Act → World → Prop} (hgd : o.guard = none) (x y : Operand) (ho : o.op = .binOp .eql 26 x y 26)
    (n : Int) (b : Nat) (m : Int) (c : Nat) (hx : a.eval x = .agg (labc n b)) (hy : a.eval y = .agg (labc m c)) {r : Bool} (hr : eqL n b m c = r) (h : wpList Try.prog ops Q rest (a.put o.dst (.bool r)) w) : wpList Try.prog ops Q (o :: rest) a w :=
  wpList_plain hgd fun _ hK => o_eqlL x y ho n b m c hx hy hr (hK _ _ h)
theorem o_loadL {o : Oper} {a : Act} {w : World} {K : Act → World → Prop} {Q : Exit → Act → World → Prop} (x : Operand) (ho : o.op = .load 26 x)
    (g : Nat) (hx : a.eval x = .pointer (some ⟨g, 0, none⟩)) (n : Int) (b : Nat) (hg : Blk w g (labc n b) 26) (h : K (a.put o.dst (.agg (labc n b))) w) : o.wp Try.prog a w K Q :=
  wp_load_row 26 x ho g hx 26 _ (0, 0) _ hg Try.underlying26 rfl infoLab h
theorem q_loadL {W : World} {o : Oper} {a : Act} {K : Act → Prop} (x : Operand) (ho : o.op = .load 26 x) (g : Nat) (hx : a.eval x = .pointer (some ⟨g, 0, none⟩)) (n : Int) (b : Nat)
    (hg : Blk W g (labc n b) 26) (hk : K (a.put o.dst (.agg (labc n b)))) : o.quiet Try.prog a (fun w' => ∃ p : Regrown, w' = grow (redrawn W p.d) p.os) K :=
  q_row 26 x ho g hx (labc n b) 26 _ hg Try.underlying26 rfl infoLab hk
theorem run_cut0 {P : Program} {T : TypeId} (hT : P.underlying T = some .string) (s : ByteArray) (hi : Int) (b : Nat) (hb : hi = (b : Int)) (hbs : b ≤ s.size) (w : World) :
    (Instr.slice T (.string s) none (some (.int .i64 hi)) none).run P w = .ok (.string (s.extract 0 b)) w := by
  subst hb
  have h1 : (0 : Int) ≤ (b : Int) ∧ (b : Int) ≤ (s.size : Int) := by omega
  simp [Instr.slice, run_underlying hT, Instr.sliceBounds, Instr.sliceBound, asIntOf, h1, hbs]
end Go.Proofs.Ytgfcdkihahfnkaa
