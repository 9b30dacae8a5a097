/- Arguments that are labels or numbers: whatever is read there is told by numbers. -/
import Derived.Test.YtgfcdkihahfnkaaLabTell
import Derived.Test.YtgfcdkihahfnkaaOwn
import Derived.Lib.SmallJoins
namespace Go.Proofs.Ytgfcdkihahfnkaa
open Go.ChangeShapes Go.WideShapes Go.ChangeAt Go.RowKit Go.Joins

theorem cellsLab : Try.prog.cellsOf 26 = 2 := by kernel_rfl
theorem wf_i64 {n : Int} (wf : Lit.wf (.int .i64 n) = true) : -9223372036854775808 ≤ n ∧ n ≤ 9223372036854775807 := by
  have h0 : IntKind.min .i64 = -9223372036854775808 := rfl
  have h1 : IntKind.max .i64 = 9223372036854775807 := rfl
  simp only [Lit.wf, h0, h1, Bool.and_eq_true, decide_eq_true_eq] at wf
  exact wf
theorem wf_u64 {n : Int} (wf : Lit.wf (.int .u64 n) = true) : ∃ k : Nat, k < 18446744073709551616 ∧ n = (k : Int) := by
  have h0 : IntKind.min .u64 = 0 := rfl
  have h1 : IntKind.max .u64 = 18446744073709551615 := rfl
  simp only [Lit.wf, h0, h1, Bool.and_eq_true, decide_eq_true_eq] at wf
  obtain ⟨k, rfl⟩ := Int.eq_ofNat_of_zero_le wf.1
  exact ⟨k, by omega, rfl⟩
section
variable {H : Type} {enc : TypeId × Value → H} {w : World} {base : Nat} {sp : Nat → Bool} {held : Bool} {r : Reach} {b0 : Nat} {v : Value} {d : DataW H} {ps : List MemPlace}
theorem open_i64 (hval : Value.okWide Try.prog w r b0 3 v) (hd : DataW.Trod enc Try.prog w base sp held 3 v d ps) : ∃ n : Int, (-9223372036854775808 ≤ n ∧ n ≤ 9223372036854775807) ∧ v = .int .i64 n := by
  obtain ⟨n, rfl, _, _, wf⟩ := open_int Try.underlying3 hval hd
  exact ⟨n, wf_i64 wf, rfl⟩
theorem open_u64 (hval : Value.okWide Try.prog w r b0 22 v) (hd : DataW.Trod enc Try.prog w base sp held 22 v d ps) : ∃ k : Nat, k < 18446744073709551616 ∧ v = .int .u64 (k : Int) := by
  obtain ⟨n, rfl, _, _, wf⟩ := open_int Try.underlying22 hval hd
  obtain ⟨k, hk, rfl⟩ := wf_u64 wf
  exact ⟨k, hk, rfl⟩
theorem open_label (hval : Value.okWide Try.prog w r b0 26 v) (hd : DataW.Trod enc Try.prog w base sp held 26 v d ps) : ∃ (n : Int) (b : Nat), ((-9223372036854775808 ≤ n ∧ n ≤ 9223372036854775807) ∧ b < 18446744073709551616) ∧ v = labv n b := by
  obtain ⟨x0, x1, y0, y1, m, rfl, rfl, rfl, hy0, hy1⟩ := open_agg2 Try.underlying26 (by kernel_rfl) cellsLab hval hd
  obtain ⟨n, e0, rfl, w0⟩ := DataW.trod_int Try.underlying3 hy0
  obtain ⟨k, e1, rfl, w1⟩ := DataW.trod_int Try.underlying22 hy1
  simp at e0 e1
  subst e0 e1
  obtain ⟨b, hb, rfl⟩ := wf_u64 w1
  exact ⟨n, b, ⟨wf_i64 w0, hb⟩, rfl⟩
end
end Go.Proofs.Ytgfcdkihahfnkaa
