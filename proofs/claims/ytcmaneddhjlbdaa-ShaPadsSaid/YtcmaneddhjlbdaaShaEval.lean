/- The document's two sums, computed. -/
import Derived.Test.YtcmaneddhjlbdaaShaSum
import Derived.Test.YtcmaneddhjlbdaaTxt
namespace Go.Proofs.Ytcmaneddhjlbdaa
theorem sum_abc : textB (sumN ⟨#[97, 98, 99]⟩) = ⟨#[97, 57, 57, 57, 51, 101, 51, 54, 52, 55, 48, 54, 56, 49, 54, 97, 98, 97, 51, 101, 50, 53, 55, 49, 55, 56, 53, 48, 99, 50, 54, 99, 57, 99, 100, 48, 100, 56, 57, 100]⟩ := by decide +kernel
theorem sum_none : textB (sumN ⟨#[]⟩) = ⟨#[100, 97, 51, 57, 97, 51, 101, 101, 53, 101, 54, 98, 52, 98, 48, 100, 51, 50, 53, 53, 98, 102, 101, 102, 57, 53, 54, 48, 49, 56, 57, 48, 97, 102, 100, 56, 48, 55, 48, 57]⟩ := by decide +kernel
end Go.Proofs.Ytcmaneddhjlbdaa
