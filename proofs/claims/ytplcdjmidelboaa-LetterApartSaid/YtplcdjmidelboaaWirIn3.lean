/- The program's reader: labels, and what reads a value whole or not at all. -/
import Derived.Test.YtplcdjmidelboaaWirIn2
namespace Go.Proofs.Ytplcdjmidelboaa
set_option maxRecDepth 100000
open Go.RowKit Go.Sort

theorem lab_filled (m : List Nat) (n : Nat) : (List.replicate 8 0).take 0 ++ m ++ (List.replicate 8 0).drop (0 + n) = m ++ List.replicate (8 - n) 0 := by
  rw [List.drop_replicate]; simp
theorem place_any {w : World} {g h c : Nat} {s : ByteArray} {p : Nat} (k : Rd w g h c s p) (hs : s.size ≤ 1000000) :
    Reads 75 w g h c s p (idv (rPl (rest s p)).1) (rPl (rest s p)).2.1 (rPl (rest s p)).2.2 := by
  have hle := k.le
  by_cases hf : (rest s p).length < 20
  · rw [show rPl (rest s p) = (0, 0, 4) by unfold rPl; rw [if_pos hf]]
    exact place_few k hs (by rw [rest_length] at hf; omega)
  · rw [show rPl (rest s p) = (valN ((rest s p).take 20), 20, 0) by unfold rPl; rw [if_neg hf]]
    exact place_some k hs (by rw [rest_length] at hf; omega)
end Go.Proofs.Ytplcdjmidelboaa
