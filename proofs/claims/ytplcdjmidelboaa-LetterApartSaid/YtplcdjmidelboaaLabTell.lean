/- The program's calls on labels: Covers, Within, Child, Parent, Span, Next. -/
import Derived.Test.YtplcdjmidelboaaLabOps
import Derived.Test.YtplcdjmidelboaaQRow
import Derived.Deep.Cut
namespace Go.Proofs.Ytplcdjmidelboaa
open Go.RowKit Go.Sort

/-- the cells of a label -/
def labc (n : Int) (b : Nat) : Array Value := #[.int .i64 n, .int .u64 (b : Int)]
theorem labv_eq (n : Int) (b : Nat) : labv n b = .agg (labc n b) := rfl

def coversB (n : Int) (b key : Nat) : Bool := isB n b && decide (cutN n.toNat key = b)
def withinB (n : Int) (b : Nat) (m : Int) (c : Nat) : Bool := isB n b && decide (m ≤ n) && coversB m c b

theorem lab0 {w : World} {g : Nat} {n : Int} {b : Nat} {t : TypeId} (h : Blk w g (labc n b) t) : w.cell? ⟨g, 0, none⟩ = some (.int .i64 n) := h.cell 0
theorem lab1 {w : World} {g : Nat} {n : Int} {b : Nat} {t : TypeId} (h : Blk w g (labc n b) t) : w.cell? ⟨g, 1, none⟩ = some (.int .u64 (b : Int)) := h.cell 1

theorem isB_len {n : Int} {b : Nat} (h : isB n b = true) : 0 ≤ n ∧ n ≤ 64 := by
  refine lenB_iff.1 ?_
  unfold isB at h; revert h; cases lenB n <;> simp
theorem isB_low {n b : Nat} (h : isB (n : Int) b = true) : lowB n b = true := by
  unfold isB at h; revert h; cases lenB n <;> simp
theorem isB_mk {n b : Nat} (hn : n ≤ 64) (h : lowB n b = true) : isB (n : Int) b = true := by
  unfold isB; rw [lenB_yes (by omega)]; simpa using h

end Go.Proofs.Ytplcdjmidelboaa
