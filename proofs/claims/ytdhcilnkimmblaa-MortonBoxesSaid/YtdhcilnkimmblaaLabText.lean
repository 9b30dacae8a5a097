/- The program's call Text. -/
import Derived.Test.YtdhcilnkimmblaaLabSib
import Derived.Test.YtdhcilnkimmblaaShaPad
namespace Go.Proofs.Ytdhcilnkimmblaa
open Go.RowKit Go.Sort

/-- a label's text, as numbers -/
def textN (n b : Nat) : List Nat := 47 :: bitsN n b
theorem textN_length (n b : Nat) : (textN n b).length = n + 1 := by rw [textN, List.length_cons, bitsN, tab_length]
def cells8 (l : List Nat) : List Value := l.map fun (n : Nat) => Value.int .u8 (n : Int)
theorem textN_snoc (k b : Nat) : cells8 (textN k b) ++ [.int .u8 (48 + (bitAt b k : Int))] = cells8 (textN (k + 1) b) := by
  rw [show (48 + (bitAt b k : Int)) = ((48 + bitAt b k : Nat) : Int) by omega]
  rw [textN, textN, bitsN, bitsN, ← tab_snoc k]
  simp [cells8]

/-- a slice of bytes is turned into a text -/
theorem run_text_cells {P : Program} (w : World) (src e dst : TypeId) (hs : P.underlying src = some (.slice e)) (he : P.underlying e = some (.int .u8)) (hd : P.underlying dst = some .string) (g n cap : Nat) (l : List Nat) (hn : l.length = n)
    (hc : ∀ j, j < n → w.cell? ⟨g, j, none⟩ = (cells8 l)[j]?) : (convert src dst (.slice (some ⟨g, 0, none⟩) n cap)).run P w = .ok (.string (txt l)) w := by
  rw [← txt_nums]
  exact run_convert_bytes_arg w src e hs he g 0 n cap _ (by rw [List.length_map, hn]) (fun i hi => by
    rw [Nat.zero_add, hc i hi, cells8, List.getElem?_map, List.getElem?_eq_getElem (by omega), List.getD, List.getElem?_map, List.getElem?_eq_getElem (by omega)]
    rfl) dst hd

end Go.Proofs.Ytdhcilnkimmblaa
