/- The program's calls on labels: Is, Of, Covers, Within. -/
import Derived.Test.YtplcdjmidelboaaLabNum
import Derived.Test.YtplcdjmidelboaaBlk
import Derived.Test.YtplcdjmidelboaaRows
import Derived.Below
import Derived.Lib.Hide
import Derived.Deep.QuietTactic
import Derived.BigQuiet
namespace Go.Proofs.Ytplcdjmidelboaa
open Go.RowKit

/-- a label, as a value -/
def labv (n : Int) (b : Nat) : Value := .agg #[.int .i64 n, .int .u64 (b : Int)]
/-- whether a length is one -/
def lenB (n : Int) : Bool := decide (0 ≤ n ∧ n ≤ 64)
theorem lenB_yes {n : Int} (h : 0 ≤ n ∧ n ≤ 64) : lenB n = true := decide_eq_true h
theorem lenB_no {n : Int} (h : ¬ (0 ≤ n ∧ n ≤ 64)) : lenB n = false := decide_eq_false h
theorem lenB_iff {n : Int} : lenB n = true ↔ (0 ≤ n ∧ n ≤ 64) := by unfold lenB; simp
/-- whether bits are those of a label of this length -/
def lowB (n b : Nat) : Bool := decide (b % gap n = 0)
/-- whether a label is right -/
def isB (n : Int) (b : Nat) : Bool := lenB n && lowB n.toNat b
theorem ret_u64 {a b : Int} (h : a = b) : Ending.returned (.int .u64 a) = .returned (.int .u64 b) := by rw [h]
theorem ret_bool {a b : Bool} (h : a = b) : Ending.returned (.bool a) = .returned (.bool b) := by rw [h]
theorem shr_int (n : Nat) (h : n ≤ 64) : (18446744073709551615 : Int) / 2 ^ n = ((gap n - 1 : Nat) : Int) := by
  rw [← shr_all n h, Int.natCast_ediv, Int.natCast_pow]; rfl

theorem quiet_eq {P : Program} {f : FuncId} {args : Array Value} {w : World} {n : Nat} {v : Value}
    (h : Calls P f args (w.drewN n) fun e w' => e = .returned v ∧ w.drewN n = w') : Calls P f args (w.drewN n) fun e w'' => e = .returned v ∧ ∃ m, w'' = w.drewN m :=
  h.mono fun _ _ ⟨he, hm⟩ => ⟨he, n, hm.symm⟩

/-- an answer of a label and a code -/
def labr (n : Int) (b : Nat) (c : Int) : Value := .tuple #[labv n b, .int .i64 c]

end Go.Proofs.Ytplcdjmidelboaa
