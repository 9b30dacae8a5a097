/-
  No cell of these rows narrows 'for every input' (looked for: loops, veiled, ifaces, maps, wideKeys, modest, calm, conditions, laid).
  DERIVED. THE GIVEN ROWS OF THIS SEAT. 6 by the template 'for every input the law returns true; each argument reads behind the call as it read before'; 0 by the template 'total and deterministic' (their statements: YtdhcilnkimmblaaTotals.lean).
  GIVEN WITH THE SEED: the statements are not yours to turn. If you find one false, say at which input.
  Laid BY PROGRAM, IN A SANDBOX (cutbox-rows.mjs): the forced cells as the released guide's own fill.sh prints them over the translation 182a3b72d03a4d87… (all of the seat's roots in one cut). By AI agents, Wed Nov 11 2026. No macro, syntax, notation, axiom, sorry.
-/
import Derived.Test.YtdhcilnkimmblaaChecked
import GoSem.Claim
import GoSem.ClaimJoined
import GoSem.ClaimMapViews
import Derived.JoinedTies
import Derived.KernelRfl
namespace Go.Proofs.Ytdhcilnkimmblaa
/- THE CELL 'sum', in the pinned program and in every row, IS THE sha256 OF THE DUMP (.gsa) THAT YtdhcilnkimmblaaProg.lean LOADS. Nothing in Lean hashes anything: it is a label: what it is worth is what the hold of that sum in a sandbox is worth. -/
noncomputable def Try.pinned : Pinned := { name := "ytdhcilnkimmblaa", sum := "182a3b72d03a4d8728c77c7bca05bd2c2498d09c039f5dba38e31fda58f33b56", checked := Try.checked }
namespace Rows
def none {H : Type} : Left H := { results := [], args := [] }

/-- 'espalierlaw04.MortonDoes': WHATEVER THE INPUT: true; the input reads as it did. -/
def mortonDoesSpec : ChangeSpec := { name := "mortonDoes", fn := fun _ => fun
  | [d1, d2, d3, d4] => { results := [.lit (.bool true)], args := [d1, d2, d3, d4] }
  | _ => none }
def mortonDoesRow : OpenClaim := { program := "ytdhcilnkimmblaa", sum := "182a3b72d03a4d8728c77c7bca05bd2c2498d09c039f5dba38e31fda58f33b56", func := "espalier/espalierlaw04.MortonDoes", spec := "mortonDoes", recurses := true, apart := false }
def MortonDoesSaid : Prop := mortonDoesRow.holds Try.pinned (OpenSpec.ofChange mortonDoesSpec)

/-- ITS FALSE NEIGHBOUR: 'it returns false'. Refute it at one input. -/
def mortonDoesWrong : ChangeSpec := { name := "mortonDoes", fn := fun _ => fun
  | [d1, d2, d3, d4] => { results := [.lit (.bool false)], args := [d1, d2, d3, d4] }
  | _ => none }
def MortonDoesWrongFalsely : Prop := mortonDoesRow.holds Try.pinned (OpenSpec.ofChange mortonDoesWrong)

/-- 'espalierlaw04.MortonBoxes': WHATEVER THE INPUT: true; the input reads as it did. -/
def mortonBoxesSpec : ChangeSpec := { name := "mortonBoxes", fn := fun _ => fun
  | [d1, d2] => { results := [.lit (.bool true)], args := [d1, d2] }
  | _ => none }
def mortonBoxesRow : OpenClaim := { program := "ytdhcilnkimmblaa", sum := "182a3b72d03a4d8728c77c7bca05bd2c2498d09c039f5dba38e31fda58f33b56", func := "espalier/espalierlaw04.MortonBoxes", spec := "mortonBoxes", apart := false }
def MortonBoxesSaid : Prop := mortonBoxesRow.holds Try.pinned (OpenSpec.ofChange mortonBoxesSpec)

/-- ITS FALSE NEIGHBOUR: 'it returns false'. Refute it at one input. -/
def mortonBoxesWrong : ChangeSpec := { name := "mortonBoxes", fn := fun _ => fun
  | [d1, d2] => { results := [.lit (.bool false)], args := [d1, d2] }
  | _ => none }
def MortonBoxesWrongFalsely : Prop := mortonBoxesRow.holds Try.pinned (OpenSpec.ofChange mortonBoxesWrong)

/-- 'espalierlaw04.MortonBack': WHATEVER THE INPUT: true; the input reads as it did. -/
def mortonBackSpec : ChangeSpec := { name := "mortonBack", fn := fun _ => fun
  | [d1, d2, d3, d4, d5] => { results := [.lit (.bool true)], args := [d1, d2, d3, d4, d5] }
  | _ => none }
def mortonBackRow : OpenClaim := { program := "ytdhcilnkimmblaa", sum := "182a3b72d03a4d8728c77c7bca05bd2c2498d09c039f5dba38e31fda58f33b56", func := "espalier/espalierlaw04.MortonBack", spec := "mortonBack", apart := false }
def MortonBackSaid : Prop := mortonBackRow.holds Try.pinned (OpenSpec.ofChange mortonBackSpec)

/-- ITS FALSE NEIGHBOUR: 'it returns false'. Refute it at one input. -/
def mortonBackWrong : ChangeSpec := { name := "mortonBack", fn := fun _ => fun
  | [d1, d2, d3, d4, d5] => { results := [.lit (.bool false)], args := [d1, d2, d3, d4, d5] }
  | _ => none }
def MortonBackWrongFalsely : Prop := mortonBackRow.holds Try.pinned (OpenSpec.ofChange mortonBackWrong)

/-- 'espalierlaw04.MortonCovers': WHATEVER THE INPUT: true; the input reads as it did. -/
def mortonCoversSpec : ChangeSpec := { name := "mortonCovers", fn := fun _ => fun
  | [d1, d2] => { results := [.lit (.bool true)], args := [d1, d2] }
  | _ => none }
def mortonCoversRow : OpenClaim := { program := "ytdhcilnkimmblaa", sum := "182a3b72d03a4d8728c77c7bca05bd2c2498d09c039f5dba38e31fda58f33b56", func := "espalier/espalierlaw04.MortonCovers", spec := "mortonCovers", apart := false }
def MortonCoversSaid : Prop := mortonCoversRow.holds Try.pinned (OpenSpec.ofChange mortonCoversSpec)

/-- ITS FALSE NEIGHBOUR: 'it returns false'. Refute it at one input. -/
def mortonCoversWrong : ChangeSpec := { name := "mortonCovers", fn := fun _ => fun
  | [d1, d2] => { results := [.lit (.bool false)], args := [d1, d2] }
  | _ => none }
def MortonCoversWrongFalsely : Prop := mortonCoversRow.holds Try.pinned (OpenSpec.ofChange mortonCoversWrong)

/-- 'espalierlaw04.MortonLeast': WHATEVER THE INPUT: true; the input reads as it did. -/
def mortonLeastSpec : ChangeSpec := { name := "mortonLeast", fn := fun _ => fun
  | [d1, d2, d3] => { results := [.lit (.bool true)], args := [d1, d2, d3] }
  | _ => none }
def mortonLeastRow : OpenClaim := { program := "ytdhcilnkimmblaa", sum := "182a3b72d03a4d8728c77c7bca05bd2c2498d09c039f5dba38e31fda58f33b56", func := "espalier/espalierlaw04.MortonLeast", spec := "mortonLeast", apart := false }
def MortonLeastSaid : Prop := mortonLeastRow.holds Try.pinned (OpenSpec.ofChange mortonLeastSpec)

/-- ITS FALSE NEIGHBOUR: 'it returns false'. Refute it at one input. -/
def mortonLeastWrong : ChangeSpec := { name := "mortonLeast", fn := fun _ => fun
  | [d1, d2, d3] => { results := [.lit (.bool false)], args := [d1, d2, d3] }
  | _ => none }
def MortonLeastWrongFalsely : Prop := mortonLeastRow.holds Try.pinned (OpenSpec.ofChange mortonLeastWrong)

/-- 'espalierlaw04.MortonAll': WHATEVER THE INPUT: true; the input reads as it did. -/
def mortonAllSpec : ChangeSpec := { name := "mortonAll", fn := fun _ => fun
  | [d] => { results := [.lit (.bool true)], args := [d] }
  | _ => none }
def mortonAllRow : OpenClaim := { program := "ytdhcilnkimmblaa", sum := "182a3b72d03a4d8728c77c7bca05bd2c2498d09c039f5dba38e31fda58f33b56", func := "espalier/espalierlaw04.MortonAll", spec := "mortonAll", apart := false }
def MortonAllSaid : Prop := mortonAllRow.holds Try.pinned (OpenSpec.ofChange mortonAllSpec)

/-- ITS FALSE NEIGHBOUR: 'it returns false'. Refute it at one input. -/
def mortonAllWrong : ChangeSpec := { name := "mortonAll", fn := fun _ => fun
  | [d] => { results := [.lit (.bool false)], args := [d] }
  | _ => none }
def MortonAllWrongFalsely : Prop := mortonAllRow.holds Try.pinned (OpenSpec.ofChange mortonAllWrong)

/- THE SECOND FORM. 'bulk': how many values and letters a reading holds, each counted each time it is reached (what is shared counts as often as it is met; a slice's spare places count too). A statement '..UptoSaid' is the law's where the arguments, and the package variables that the reading takes, are together of bulk at most 1048576: NARROWER than '..Said'. Prove '..Said' where nothing that the law and all that it calls make is longer than what came in: it says more and counts as full. Else prove '..UptoSaid'. A law counts once. -/
mutual
def uptoBulk {H : Type} : DataW H → Nat
  | .lit (.string bytes) => bytes.length + 1
  | .lit _ => 1
  | .nil => 1
  | .ptr d => uptoBulk d + 1
  | .slice elems spare => uptoBulkAll elems + uptoBulkAll spare + 1
  | .agg parts => uptoBulkAll parts + 1
  | .iface _ d => uptoBulk d + 1
  | .map entries => uptoBulkEntries entries + 1
  | .held _ => 1
def uptoBulkAll {H : Type} : List (DataW H) → Nat
  | [] => 0
  | d :: r => uptoBulk d + uptoBulkAll r
def uptoBulkEntries {H : Type} : List (Lit × DataW H) → Nat
  | [] => 0
  | x :: r => uptoBulkEntry x + uptoBulkEntries r
def uptoBulkEntry {H : Type} : Lit × DataW H → Nat
  | (.string bytes, d) => bytes.length + uptoBulk d + 1
  | (_, d) => uptoBulk d + 1
 end
def uptoSmall : (H : Type) → List (DataW H) → Bool := fun _ ds => decide (uptoBulkAll ds ≤ 1048576)
def OpenSpec.upto (s : _root_.Go.ChangeSpec) : _root_.Go.OpenSpec := { _root_.Go.OpenSpec.ofChange s with cond := some uptoSmall }

/-- 'espalierlaw04.MortonDoes', WHERE WHAT IT READS IS OF BULK AT MOST 1048576: true; the input reads as it did. -/
def mortonDoesUptoRow : OpenClaim := { program := "ytdhcilnkimmblaa", sum := "182a3b72d03a4d8728c77c7bca05bd2c2498d09c039f5dba38e31fda58f33b56", func := "espalier/espalierlaw04.MortonDoes", spec := "mortonDoes", recurses := true, apart := false, narrowed := true }
def MortonDoesUptoSaid : Prop := mortonDoesUptoRow.holds Try.pinned (OpenSpec.upto mortonDoesSpec)

/-- 'espalierlaw04.MortonBoxes', WHERE WHAT IT READS IS OF BULK AT MOST 1048576: true; the input reads as it did. -/
def mortonBoxesUptoRow : OpenClaim := { program := "ytdhcilnkimmblaa", sum := "182a3b72d03a4d8728c77c7bca05bd2c2498d09c039f5dba38e31fda58f33b56", func := "espalier/espalierlaw04.MortonBoxes", spec := "mortonBoxes", apart := false, narrowed := true }
def MortonBoxesUptoSaid : Prop := mortonBoxesUptoRow.holds Try.pinned (OpenSpec.upto mortonBoxesSpec)

/-- 'espalierlaw04.MortonBack', WHERE WHAT IT READS IS OF BULK AT MOST 1048576: true; the input reads as it did. -/
def mortonBackUptoRow : OpenClaim := { program := "ytdhcilnkimmblaa", sum := "182a3b72d03a4d8728c77c7bca05bd2c2498d09c039f5dba38e31fda58f33b56", func := "espalier/espalierlaw04.MortonBack", spec := "mortonBack", apart := false, narrowed := true }
def MortonBackUptoSaid : Prop := mortonBackUptoRow.holds Try.pinned (OpenSpec.upto mortonBackSpec)

/-- 'espalierlaw04.MortonCovers', WHERE WHAT IT READS IS OF BULK AT MOST 1048576: true; the input reads as it did. -/
def mortonCoversUptoRow : OpenClaim := { program := "ytdhcilnkimmblaa", sum := "182a3b72d03a4d8728c77c7bca05bd2c2498d09c039f5dba38e31fda58f33b56", func := "espalier/espalierlaw04.MortonCovers", spec := "mortonCovers", apart := false, narrowed := true }
def MortonCoversUptoSaid : Prop := mortonCoversUptoRow.holds Try.pinned (OpenSpec.upto mortonCoversSpec)

/-- 'espalierlaw04.MortonLeast', WHERE WHAT IT READS IS OF BULK AT MOST 1048576: true; the input reads as it did. -/
def mortonLeastUptoRow : OpenClaim := { program := "ytdhcilnkimmblaa", sum := "182a3b72d03a4d8728c77c7bca05bd2c2498d09c039f5dba38e31fda58f33b56", func := "espalier/espalierlaw04.MortonLeast", spec := "mortonLeast", apart := false, narrowed := true }
def MortonLeastUptoSaid : Prop := mortonLeastUptoRow.holds Try.pinned (OpenSpec.upto mortonLeastSpec)

/-- 'espalierlaw04.MortonAll', WHERE WHAT IT READS IS OF BULK AT MOST 1048576: true; the input reads as it did. -/
def mortonAllUptoRow : OpenClaim := { program := "ytdhcilnkimmblaa", sum := "182a3b72d03a4d8728c77c7bca05bd2c2498d09c039f5dba38e31fda58f33b56", func := "espalier/espalierlaw04.MortonAll", spec := "mortonAll", apart := false, narrowed := true }
def MortonAllUptoSaid : Prop := mortonAllUptoRow.holds Try.pinned (OpenSpec.upto mortonAllSpec)

end Rows
end Go.Proofs.Ytdhcilnkimmblaa
