/- What a row gives of the package variables that it lists, and a world in which they read so. -/
import Derived.Test.YtgpmfiphebmldaaDoorBlaStd
import Derived.Test.YtgpmfiphebmldaaDoorOwn
import Derived.Test.YtgpmfiphebmldaaDoorTie
import Derived.Test.YtgpmfiphebmldaaDoorCards
import Derived.LaidMore
import Derived.LaidOnce
import Derived.LaidHandle
import Derived.Stop.Joined
import Derived.SevenTiedAt
import Derived.Lib.LaidTab
namespace Go.Proofs.YtgpmfiphebmldaaDoor
open Go Go.ChangeShapes Go.WideShapes Go.ChangeAt Go.RowKit

/-- what each row lists -/
def LD : List (String × DataW Unit) := Rows.blameNewRow.laid
theorem rt : (Tryd.prog.cutTypes.find? (·.1 == "internal/reflectlite.rtype")).map (·.2) = some 100 := by kernel_rfl
theorem oneRow : ((List.range 160).filter fun t => Tryd.prog.rowNamed t [101, 114, 114, 111, 114]) = [30] := by kernel_rfl
theorem typesSize : Tryd.prog.types.size = 160 := by kernel_rfl
theorem errAt : Tryd.prog.globalNamed "errors.errorType" = some 0 := by kernel_rfl
theorem powData : (Rows.laid_internal_strconv_uint64pow10 : DataW Unit) = Lib.tabData .u64 Lib.pow10Tab := by kernel_rfl

theorem bitsAt : Tryd.prog.globalNamed "math/bits.deBruijn64tab" = some 3 := by kernel_rfl
theorem laid_size {W : World} (h : laidMetH Tryd.prog LD W) : 4 ≤ W.heap.size := by
  have h' : laidMet Tryd.prog (LD.filter fun x => x.2.handleName?.isNone) W ∧ handlesMet Tryd.prog (LD.filter fun x => x.2.handleName?.isSome) W := h
  obtain ⟨ps, ⟨g1, t1, cs1, f1, p1, q1, hg1, ht1, hv1, hd1, ⟨g2, t2, cs2, f2, p2, q2, hg2, ht2, hv2, hd2, _, _⟩, _⟩, _, _⟩ := h'.1
  have hv : W.var? Tryd.prog "math/bits.deBruijn64tab" = some cs2 := hv2
  unfold World.var? at hv
  rw [bitsAt] at hv
  rcases Nat.lt_or_ge 3 W.heap.size with h3 | h3
  · exact h3
  · simp [Array.getElem?_eq_none h3] at hv
theorem glob_of_laid {W : World} (h : laidMetH Tryd.prog LD W) : Glob W := by
  have h' : laidMet Tryd.prog (LD.filter fun x => x.2.handleName?.isNone) W ∧ handlesMet Tryd.prog (LD.filter fun x => x.2.handleName?.isSome) W := h
  refine ⟨?_, ?_, ?_⟩
  · obtain ⟨name, u, ty, e1, e2, e3, e4, e5⟩ := h'.2 ("errors.errorType", Rows.laid_errors_errorType) (List.mem_cons_self ..)
    have en : name = [101, 114, 114, 111, 114] := (Option.some.inj e1).symm
    subst en
    obtain rfl := Option.some.inj (rt.symm.trans e2)
    have hm : ty ∈ (List.range 160).filter fun t => Tryd.prog.rowNamed t [101, 114, 114, 111, 114] := List.mem_filter.2 ⟨List.mem_range.2 (by rw [← typesSize]; exact e3), e4⟩
    rw [oneRow] at hm
    obtain rfl := List.mem_singleton.1 hm
    have hh : typeHandle Tryd.prog 30 = .pointer (some ⟨4, 30, none⟩) := by kernel_rfl
    rw [hh] at e5
    simpa using World.var?_cell errAt e5 0
  · obtain ⟨ps, ⟨g1, t1, cs1, f1, p1, q1, hg1, ht1, hv1, hd1, ⟨g2, t2, cs2, f2, p2, q2, hg2, ht2, hv2, hd2, ⟨g3, t3, cs3, f3, p3, q3, hg3, ht3, hv3, hd3, _, _⟩, _⟩, _⟩, _, _⟩ := h'.1
    obtain rfl := Option.some.inj (pow_at.symm.trans hg3)
    obtain rfl := Option.some.inj ((show (Tryd.prog.globals[1]?).map (·.type) = some 123 by kernel_rfl).symm.trans ht3)
    unfold Lib.TabIs
    rw [powData] at hd3
    rw [hv3, ← Lib.cells_of_tab Tryd.underlying123 Tryd.underlying116 (by kernel_rfl) (by kernel_rfl) hd3]
  · exact laid_size h
theorem door_met (os : Os) (args : Array Value) : laidMetH Tryd.prog LD ((World.doorLaid Tryd.prog 31 os).forCall (fun _ _ => 0) ⟨#[], args, []⟩).memory :=
  laidMetH_of_parts (laidMet_of_run' 65 (by kernel_rfl) (by kernel_rfl)) (by kernel_rfl)
end Go.Proofs.YtgpmfiphebmldaaDoor
