/- The document's calls on labels: bits, number, fill, of, Bits, Is. -/
import Derived.Test.YtplcdjmidelboaaLabMem
import Derived.Test.YtplcdjmidelboaaLabBits
namespace Go.Proofs.Ytplcdjmidelboaa
open Go.RowKit Go.Sort

theorem ret_str {a b : ByteArray} (h : a = b) : Ending.returned (.string a) = .returned (.string b) := by rw [h]
def sizeS : Value → Nat
  | .string x => x.size
  | _ => 0
theorem full_fill (l : List Nat) : num (l ++ List.replicate (64 - l.length) 48) = full l := num_rep0 l _
end Go.Proofs.Ytplcdjmidelboaa
