/- Two records and a code, handed back. -/
import Derived.Test.YtkicndengkcojaaRecMem
namespace Go.Proofs.Ytkicndengkcojaa
set_option maxRecDepth 100000
open Go Go.RowKit Go.Sort

theorem results_rec3 {fn : Func} {p q t : Tmp} (h : fn.results = #[.cell p 27, .cell q 27, .tmp t]) (tmps : Array Value) (w : World) (g g2 : Nat) (r r2 : Rc) (u u2 v : Value)
    (hp : tmps.getD p undef = .pointer (some ⟨g, 0, none⟩)) (hq : tmps.getD q undef = .pointer (some ⟨g2, 0, none⟩)) (hv : tmps.getD t undef = v) (hg : Blk w g (recC r u) 27) (hg2 : Blk w g2 (recC r2 u2) 27) :
    (results fn tmps).run Try.prog w = .ok (.tuple #[.agg (recC r u), .agg (recC r2 u2), v]) w := by
  have hp' : tmps[p]?.getD undef = .pointer (some ⟨g, 0, none⟩) := by simpa using hp
  have hq' : tmps[q]?.getD undef = .pointer (some ⟨g2, 0, none⟩) := by simpa using hq
  have hv' : tmps[t]?.getD undef = v := by simpa using hv
  simp [results, h, hp', hq', hv', asAddr, run_loadVar_row w g 27 27 (recC r u) (0, 0) _ hg Try.underlying27 rfl infoRec, run_loadVar_row w g2 27 27 (recC r2 u2) (0, 0) _ hg2 Try.underlying27 rfl infoRec]
end Go.Proofs.Ytkicndengkcojaa
