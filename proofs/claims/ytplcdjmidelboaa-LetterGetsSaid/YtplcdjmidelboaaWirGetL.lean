/- The document's reader: labels. -/
import Derived.Test.YtplcdjmidelboaaWirGetP
namespace Go.Proofs.Ytplcdjmidelboaa
set_option maxRecDepth 100000
open Go.RowKit Go.Sort

theorem labV_nil : labV [] = 0 := by simp [labV, valN]
theorem run_atP (c : Nat) (t : List Nat) (hl : ∀ b ∈ c :: t, b < 256) (k : Nat) (h : k < t.length) (w : World) : (Instr.index 9 (.string (txt (c :: t))) (.int .i64 (1 + (k : Int)))).run Try.prog w = .ok (.int .u8 ((t[k] : Nat) : Int)) w := by
  have := run_at (c :: t) hl (k + 1) (by simp; omega) w
  rwa [show ((k + 1 : Nat) : Int) = 1 + (k : Int) by omega] at this
end Go.Proofs.Ytplcdjmidelboaa
