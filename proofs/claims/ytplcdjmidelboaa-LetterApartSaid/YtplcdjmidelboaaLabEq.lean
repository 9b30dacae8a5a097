/- Labels are compared, in plain regions and in those that draw their order. -/
import Derived.Test.YtplcdjmidelboaaLabMem
import Derived.Laws.StructEq
namespace Go.Proofs.Ytplcdjmidelboaa
open Go.RowKit Go.Sort

/-- whether two labels are the same -/
def eqL (n : Int) (b : Nat) (m : Int) (c : Nat) : Bool := decide (n = m ∧ b = c)
theorem eqL_self (n : Int) (b : Nat) : eqL n b n b = true := by unfold eqL; simp
theorem eqL_iff {n : Int} {b : Nat} {m : Int} {c : Nat} : eqL n b m c = true ↔ n = m ∧ b = c := by unfold eqL; simp
theorem eqL_eq (n : Int) (b : Nat) (m : Int) (c : Nat) : ((n == m) && ((b : Int) == (c : Int))) = eqL n b m c := by
  unfold eqL
  rw [Bool.eq_iff_iff]
  simp
  omega
theorem run_partL (n : Int) (b : Nat) (w : World) : (Go.part 3 (labc n b) 0).run Try.prog w = .ok (.int .i64 n) w := by
  have ha : (isAgg 3).run Try.prog w = .ok false w := by
    unfold isAgg
    rw [Sem.run_bind, run_underlying Try.underlying3 w]
    rfl
  simp [Go.part, ha, labc]
theorem run_partB (n : Int) (b : Nat) (w : World) : (Go.part 26 (labc n b) 1).run Try.prog w = .ok (.int .u64 (b : Int)) w := by
  have ha : (isAgg 26).run Try.prog w = .ok false w := by
    unfold isAgg
    rw [Sem.run_bind, run_underlying Try.underlying26 w]
    rfl
  simp [Go.part, ha, labc]
theorem run_cut0 {P : Program} {T : TypeId} (hT : P.underlying T = some .string) (s : ByteArray) (hi : Int) (b : Nat) (hb : hi = (b : Int)) (hbs : b ≤ s.size) (w : World) :
    (Instr.slice T (.string s) none (some (.int .i64 hi)) none).run P w = .ok (.string (s.extract 0 b)) w := by
  subst hb
  have h1 : (0 : Int) ≤ (b : Int) ∧ (b : Int) ≤ (s.size : Int) := by omega
  simp [Instr.slice, run_underlying hT, Instr.sliceBounds, Instr.sliceBound, asIntOf, h1, hbs]
end Go.Proofs.Ytplcdjmidelboaa
