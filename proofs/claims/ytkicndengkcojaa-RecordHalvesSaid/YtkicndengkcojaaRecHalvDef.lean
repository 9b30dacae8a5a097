/- What Halves answers, of any record and label. -/
import Derived.Test.YtkicndengkcojaaRecHalv
namespace Go.Proofs.Ytkicndengkcojaa
set_option maxRecDepth 100000
open Go Go.RowKit Go.Sort

def halvesA (r : Rc) (n : Int) (b : Nat) : Rc := if halvesE r n b = 0 then half0 r n.toNat b else zeroR
def halvesB (r : Rc) (n : Int) (b : Nat) : Rc := if halvesE r n b = 0 then half1 r n.toNat b else zeroR
/-- what a call answers that tells two records and a code -/
def TellsH (w : World) (ra rb : Rc) (n : Nat) (e : Ending) (w' : World) : Prop := ∃ u v, e = .returned (.tuple #[.agg (recC ra u), .agg (recC rb v), .int .i64 (n : Int)]) ∧ Told w' u ra.items ∧ Told w' v rb.items ∧ Below w.heap.size w w'
end Go.Proofs.Ytkicndengkcojaa
