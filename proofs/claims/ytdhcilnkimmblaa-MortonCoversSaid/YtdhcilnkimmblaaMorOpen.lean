/- Arguments that are rectangles or numbers of 32 bits: whatever is read there is told by numbers. -/
import Derived.Test.YtdhcilnkimmblaaLabOpen
import Derived.Test.YtdhcilnkimmblaaMorRect
namespace Go.Proofs.Ytdhcilnkimmblaa
open Go.ChangeShapes Go.WideShapes Go.ChangeAt Go.RowKit Go.Joins

theorem cellsRect : Try.prog.cellsOf 25 = 4 := by kernel_rfl
theorem wf_u32 {n : Int} (wf : Lit.wf (.int .u32 n) = true) : ∃ k : Nat, k < 4294967296 ∧ n = (k : Int) := by
  have h0 : IntKind.min .u32 = 0 := rfl
  have h1 : IntKind.max .u32 = 4294967295 := rfl
  simp only [Lit.wf, h0, h1, Bool.and_eq_true, decide_eq_true_eq] at wf
  obtain ⟨k, rfl⟩ := Int.eq_ofNat_of_zero_le wf.1
  exact ⟨k, by omega, rfl⟩
section
variable {H : Type} {enc : TypeId × Value → H} {w : World} {base : Nat} {sp : Nat → Bool} {held : Bool} {r : Reach} {b0 : Nat} {v : Value} {d : DataW H} {ps : List MemPlace}
theorem open_u32 (hval : Value.okWide Try.prog w r b0 22 v) (hd : DataW.Trod enc Try.prog w base sp held 22 v d ps) : ∃ k : Nat, k < 4294967296 ∧ v = .int .u32 (k : Int) := by
  obtain ⟨n, rfl, _, _, wf⟩ := open_int Try.underlying22 hval hd
  obtain ⟨k, hk, rfl⟩ := wf_u32 wf
  exact ⟨k, hk, rfl⟩
theorem open_rect (hval : Value.okWide Try.prog w r b0 25 v) (hd : DataW.Trod enc Try.prog w base sp held 25 v d ps) :
    ∃ x1 x2 y1 y2 : Nat, (x1 < 4294967296 ∧ x2 < 4294967296 ∧ y1 < 4294967296 ∧ y2 < 4294967296) ∧ v = .agg (rectc x1 x2 y1 y2) := by
  obtain ⟨v0, v1, v2, v3, z0, z1, z2, z3, m, rfl, rfl, rfl, hy0, hy1, hy2, hy3⟩ := open_agg4 Try.underlying25 (by kernel_rfl) cellsRect hval hd
  obtain ⟨k0, e0, rfl, w0⟩ := DataW.trod_int Try.underlying22 hy0
  obtain ⟨k1, e1, rfl, w1⟩ := DataW.trod_int Try.underlying22 hy1
  obtain ⟨k2, e2, rfl, w2⟩ := DataW.trod_int Try.underlying22 hy2
  obtain ⟨k3, e3, rfl, w3⟩ := DataW.trod_int Try.underlying22 hy3
  simp at e0 e1 e2 e3
  subst e0 e1 e2 e3
  obtain ⟨x1, h1, rfl⟩ := wf_u32 w0
  obtain ⟨x2, h2, rfl⟩ := wf_u32 w1
  obtain ⟨y1, h3, rfl⟩ := wf_u32 w2
  obtain ⟨y2, h4, rfl⟩ := wf_u32 w3
  exact ⟨x1, x2, y1, y2, ⟨h1, h2, h3, h4⟩, rfl⟩
end
end Go.Proofs.Ytdhcilnkimmblaa
