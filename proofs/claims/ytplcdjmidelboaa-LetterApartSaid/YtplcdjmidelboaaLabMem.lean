/- Labels in memory: loaded, stored, handed back. -/
import Derived.Test.YtplcdjmidelboaaLabTell
namespace Go.Proofs.Ytplcdjmidelboaa
open Go.RowKit Go.Sort

theorem lab_all (n : Int) (b : Nat) : (labc n b).all (·.oneCell') = true := by simp [labc, Value.oneCell']
theorem lab00 : (#[Value.int IntKind.i64 0, Value.int IntKind.u64 0] : Array Value) = labc 0 0 := rfl
theorem labr_eq (n : Int) (b : Nat) (c : Int) : labr n b c = .tuple #[.agg (labc n b), .int .i64 c] := rfl

end Go.Proofs.Ytplcdjmidelboaa
