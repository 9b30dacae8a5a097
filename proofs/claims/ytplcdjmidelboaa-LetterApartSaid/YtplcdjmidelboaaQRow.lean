/- Loads in a region that draws its order, in every world in which nothing that was there has changed. Nothing of the program is named here. -/
import Derived.Test.YtplcdjmidelboaaBlk
import Derived.Lib.QuietBelow
namespace Go.Proofs.Ytplcdjmidelboaa
open Go.RowKit Go.Sort

/-- a whole array, or a struct, is loaded -/
theorem q_row {P : Program} {W : World} {o : Oper} {a : Act} {K : Act → Prop} (ty : TypeId) (x : Operand) (ho : o.op = .load ty x) (g : Nat) (hx : a.eval x = .pointer (some ⟨g, 0, none⟩)) (cs : Array Value) (t : TypeId) (d : TypeDesc)
    (hg : Blk W g cs t) (hu : P.underlying ty = some d) (hd : (match d with | .struct _ | .array _ _ => true | _ => false) = true) (hi : (P.info? ty).map (·.size) = some cs.size) (hk : K (a.put o.dst (.agg cs))) : o.quiet P a (fun w' => ∃ p : Regrown, w' = grow (redrawn W p.d) p.os) K := by
  refine ⟨.agg cs, ?_, hk⟩
  rintro w' ⟨p, rfl⟩
  have hg' : Blk (grow (redrawn W p.d) p.os) g cs t := hg.below (below_regrown W p.d p.os) hg.lt
  unfold Oper.quietAt execOp
  simp only [ho, hx, Instr.loadAt, Instr.sureAddr, Sem.run_bind, run_loadVar_row _ g t ty cs (0, 0) d hg' hu hd hi, Sem.run_pure, Result.andThen_ok]
  exact ⟨rfl, rfl⟩
theorem Blk.grown {W : World} {g : Nat} {cs : Array Value} {t : TypeId} (h : Blk W g cs t) (i : Nat) (d : Nat) (os : Array Obj) : (grow (redrawn W d) os).cell? ⟨g, i, none⟩ = cs[i]? := (h.below (below_regrown W d os) h.lt).cell i
theorem calls_below {P : Program} {f : FuncId} {args : Array Value} {w : World} {v : Value} (h : Calls P f args w fun e w' => e = .returned v ∧ w = w') : Calls P f args w fun e w' => e = .returned v ∧ Below w.heap.size w w' :=
  h.mono fun _ _ ⟨he, hw⟩ => ⟨he, hw ▸ Below.refl _ _⟩
/-- a contract that tells its result, and leaves all that was there -/
def Gives (P : Program) (f : FuncId) (args : Array Value) (v : Value) : Prop := ∀ w : World, Calls P f args w fun e w' => e = .returned v ∧ Below w.heap.size w w'
theorem Gives.grown {P : Program} {f : FuncId} {args : Array Value} {v : Value} (h : Gives P f args v) {W : World} (d : Nat) (os : Array Obj) : Calls P f args (grow (redrawn W d) os) fun e w'' => e = .returned v ∧ ∃ p : Regrown, w'' = grow (redrawn W p.d) p.os :=
  Calls.regrown_of (h _)
theorem Gives.calls {P : Program} {f : FuncId} {args : Array Value} {v : Value} (h : Gives P f args v) (w : World) : Calls P f args w fun e w' => e = .returned v ∧ Below w.heap.size w w' := h w
/-- a contract at one world, which it leaves -/
def Gives1 (P : Program) (f : FuncId) (args : Array Value) (v : Value) (w : World) : Prop := Calls P f args w fun e w' => e = .returned v ∧ w = w'
theorem Gives1.calls {P : Program} {f : FuncId} {args : Array Value} {v : Value} {w : World} (h : Gives1 P f args v w) : Calls P f args w fun e w' => e = .returned v ∧ w = w' := h
end Go.Proofs.Ytplcdjmidelboaa
