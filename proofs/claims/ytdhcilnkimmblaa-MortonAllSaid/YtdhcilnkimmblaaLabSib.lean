/- The program's call Sibling. -/
import Derived.Test.YtdhcilnkimmblaaLabSpan
import Derived.Test.YtdhcilnkimmblaaTail
import Derived.StillTailTactics
namespace Go.Proofs.Ytdhcilnkimmblaa
open Go.RowKit Go.Sort

theorem Mem2.alloc {w wr : World} {n : Int} {b : Nat} {m : Int} {c : Nat} (k : Mem2 w wr n b m c) (o : Obj) : Mem2 w (wr.alloc o) n b m c :=
  ⟨k.below.alloc k.below.size _, k.a.alloc _, k.z.alloc _⟩
theorem Mem2.drew {w wr : World} {n : Int} {b : Nat} {m : Int} {c : Nat} (k : Mem2 w wr n b m c) : Mem2 w wr.drew n b m c := ⟨k.below.drew, k.a, k.z⟩

theorem child_bits (n c bit : Nat) (hn : n < 64) (hc : c < 18446744073709551616) (hi : lowB n c = true) (hbit : bit < 2) : Gives Try.prog 28 #[labv n c, .int .i64 (bit : Int)] (labr ((n : Int) + 1) (chB n c bit) 0) := by
  intro w
  rcases (by omega : bit = 0 ∨ bit = 1) with rfl | rfl
  · exact child_zero n c w hn hc hi
  · exact child_one n c w hn hc hi
end Go.Proofs.Ytdhcilnkimmblaa
