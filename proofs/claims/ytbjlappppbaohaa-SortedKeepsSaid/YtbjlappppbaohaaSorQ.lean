/- Items in a region that draws its order. -/
import Derived.Test.YtbjlappppbaohaaSorOrd
import Derived.Test.YtbjlappppbaohaaSorOpen
namespace Go.Proofs.Ytbjlappppbaohaa
open Go Go.RowKit Go.Sort

theorem q_loadA {W : World} {o : Oper} {a : Act} {K : Act → Prop} (x : Operand) (ho : o.op = .load 46 x) (g : Nat) (hx : a.eval x = .pointer (some ⟨g, 0, none⟩)) (k : Nat) (s : ByteArray)
    (hg : Blk W g (itC k s) 46) (hk : K (a.put o.dst (.agg (itC k s)))) : o.quiet Try.prog a (fun w' => ∃ p : Regrown, w' = grow (redrawn W p.d) p.os) K :=
  q_row 46 x ho g hx (itC k s) 46 _ hg Try.underlying46 rfl sizeA hk
theorem q_midA {W : World} {o : Oper} {a : Act} {K : Act → Prop} (x : Operand) (ho : o.op = .load 46 x) (g i : Nat) (hx : a.eval x = .pointer (some ⟨g, i, none⟩)) (k : Nat) (s : ByteArray)
    (hg : W.rangeAt g i (itC k s).toList) (hk : K (a.put o.dst (.agg (itC k s)))) : o.quiet Try.prog a (fun w' => ∃ p : Regrown, w' = grow (redrawn W p.d) p.os) K := by
  refine ⟨.agg (itC k s), ?_, hk⟩
  rintro w' ⟨p, rfl⟩
  have hg' : (grow (redrawn W p.d) p.os).rangeAt g i (itC k s).toList := range_bel hg (below_regrown W p.d p.os) (range_lt hg (by simp [itC]))
  unfold Oper.quietAt execOp
  simp only [ho, hx, Instr.loadAt, Instr.sureAddr, Sem.run_bind, run_loadVar_mid _ g i 46 (itC k s).toList _ hg' Try.underlying46 rfl sizeA, Sem.run_pure, Result.andThen_ok]
  exact ⟨rfl, rfl⟩
theorem q_eqlI {C : World → Prop} {o : Oper} {a : Act} {K : Act → Prop} (u v : Operand) (ho : o.op = .binOp .eql 46 u v 46) (x y : It) (hx : a.eval u = .agg (itC x.1 x.2)) (hy : a.eval v = .agg (itC y.1 y.2)) {r : Bool} (hr : eqI x y = r)
    (hk : K (a.put o.dst (.bool r))) : o.quiet Try.prog a C K := by
  refine ⟨.bool r, ?_, hk⟩
  intro w' _
  unfold Oper.quietAt execOp
  simp only [ho, hx, hy, Sem.run_bind, run_eqGuard_agg w' .eql 46 u v _ _ guardI, run_eql_it, hr, Sem.run_pure, Result.andThen_ok]
  exact ⟨rfl, rfl⟩
theorem eqI_self (x : It) : eqI x x = true := eqI_iff.2 rfl
theorem ord_gives : Gives Try.prog 12 #[] (.bool true) := ordered_any
/-- a region that draws, and only makes memory -/
theorem quiet_end {W w' : World} (h : ∃ p : Regrown, w' = grow (redrawn W p.d) p.os) : Below W.heap.size W w' := by
  obtain ⟨⟨d, os⟩, rfl⟩ := h
  exact below_regrown W d os
theorem step {w a b : World} (h : Below w.heap.size w a) (k : Below a.heap.size a b) : Below w.heap.size w b := h.trans (k.mono h.size)
end Go.Proofs.Ytbjlappppbaohaa
