/- The document's calls on labels: Child, Parent, Sibling. -/
import Derived.Test.YtdhcilnkimmblaaLabRefCov
import Derived.Test.YtdhcilnkimmblaaLabSib
import Derived.RegionTactic
import Derived.Deep.RegionWith
namespace Go.Proofs.Ytdhcilnkimmblaa
open Go.RowKit Go.Sort

theorem Mem2.cells {w wr : World} {n : Int} {b : Nat} {m : Int} {c : Nat} (k : Mem2 w wr n b m c) (m' : Int) (c' : Nat) : Mem2 w ((wr.setCell ⟨w.heap.size + 1, 0, none⟩ (.int .i64 m')).setCell ⟨w.heap.size + 1, 1, none⟩ (.int .u64 (c' : Int))) n b m' c' :=
  ⟨(k.below.setCell (p := ⟨w.heap.size + 1, 0, none⟩) (by simp) _).setCell (p := ⟨w.heap.size + 1, 1, none⟩) (by simp) _, (k.a.other _ _ _ (by omega)).other _ _ _ (by omega), (k.z.put 0 (.int .i64 m')).put 1 (.int .u64 (c' : Int))⟩
end Go.Proofs.Ytdhcilnkimmblaa
