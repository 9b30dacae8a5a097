/- The document's example is true; a table that is not too big. -/
import Derived.Test.YtkcljbolopephaaTabTabled
import Derived.Test.YtkcljbolopephaaTabOpen
namespace Go.Proofs.Ytkcljbolopephaa
set_option maxRecDepth 100000
open Go Go.RowKit Go.Sort

theorem tabled_gives : Gives Try.prog 17 #[] (.bool true) := fun w => tabled_any w
theorem big_no {S F : List Pe} (h : bigB S F = false) : S.length ≤ 40 ∧ F.length ≤ 200 := by
  unfold bigB at h
  rw [Bool.or_eq_false_iff, decide_eq_false_iff_not, decide_eq_false_iff_not] at h
  omega
end Go.Proofs.Ytkcljbolopephaa
