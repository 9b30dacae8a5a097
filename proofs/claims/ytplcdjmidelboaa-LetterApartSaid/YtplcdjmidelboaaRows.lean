/-
  No cell of these rows narrows 'for every input' (looked for: loops, veiled, ifaces, maps, wideKeys, modest, calm, conditions, laid).
  DERIVED. THE GIVEN ROWS OF THIS SEAT. 5 by the template 'for every input the law returns true; each argument reads behind the call as it read before'; 0 by the template 'total and deterministic' (their statements: YtplcdjmidelboaaTotals.lean).
  GIVEN WITH THE SEED: the statements are not yours to turn. If you find one false, say at which input.
  Laid BY PROGRAM, IN A SANDBOX (cutbox-rows.mjs): the forced cells as the released guide's own fill.sh prints them over the translation 6af16d55817942be… (all of the seat's roots in one cut). By AI agents, Wed Nov 11 2026. No macro, syntax, notation, axiom, sorry.
-/
import Derived.Test.YtplcdjmidelboaaChecked
import GoSem.Claim
import GoSem.ClaimJoined
import GoSem.ClaimMapViews
import Derived.JoinedTies
import Derived.KernelRfl
namespace Go.Proofs.Ytplcdjmidelboaa
/- THE CELL 'sum', in the pinned program and in every row, IS THE sha256 OF THE DUMP (.gsa) THAT YtplcdjmidelboaaProg.lean LOADS. Nothing in Lean hashes anything: it is a label: what it is worth is what the hold of that sum in a sandbox is worth. -/
noncomputable def Try.pinned : Pinned := { name := "ytplcdjmidelboaa", sum := "6af16d55817942be9f27d9482108f403028883f0fa41448c9b28b833cc4d7368", checked := Try.checked }
namespace Rows
def none {H : Type} : Left H := { results := [], args := [] }

/-- 'espalierlaw14.LetterPuts': WHATEVER THE INPUT: true; the input reads as it did. -/
def letterPutsSpec : ChangeSpec := { name := "letterPuts", fn := fun _ => fun
  | [d] => { results := [.lit (.bool true)], args := [d] }
  | _ => none }
def letterPutsRow : OpenClaim := { program := "ytplcdjmidelboaa", sum := "6af16d55817942be9f27d9482108f403028883f0fa41448c9b28b833cc4d7368", func := "espalier/espalierlaw14.LetterPuts", spec := "letterPuts", unfollowed := true, recurses := true, apart := false }
def LetterPutsSaid : Prop := letterPutsRow.holds Try.pinned (OpenSpec.ofChange letterPutsSpec)

/-- ITS FALSE NEIGHBOUR: 'it returns false'. Refute it at one input. -/
def letterPutsWrong : ChangeSpec := { name := "letterPuts", fn := fun _ => fun
  | [d] => { results := [.lit (.bool false)], args := [d] }
  | _ => none }
def LetterPutsWrongFalsely : Prop := letterPutsRow.holds Try.pinned (OpenSpec.ofChange letterPutsWrong)

/-- 'espalierlaw14.LetterGets': WHATEVER THE INPUT: true; the input reads as it did. -/
def letterGetsSpec : ChangeSpec := { name := "letterGets", fn := fun _ => fun
  | [d] => { results := [.lit (.bool true)], args := [d] }
  | _ => none }
def letterGetsRow : OpenClaim := { program := "ytplcdjmidelboaa", sum := "6af16d55817942be9f27d9482108f403028883f0fa41448c9b28b833cc4d7368", func := "espalier/espalierlaw14.LetterGets", spec := "letterGets", unfollowed := true, recurses := true, apart := false }
def LetterGetsSaid : Prop := letterGetsRow.holds Try.pinned (OpenSpec.ofChange letterGetsSpec)

/-- ITS FALSE NEIGHBOUR: 'it returns false'. Refute it at one input. -/
def letterGetsWrong : ChangeSpec := { name := "letterGets", fn := fun _ => fun
  | [d] => { results := [.lit (.bool false)], args := [d] }
  | _ => none }
def LetterGetsWrongFalsely : Prop := letterGetsRow.holds Try.pinned (OpenSpec.ofChange letterGetsWrong)

/-- 'espalierlaw14.LetterBack': WHATEVER THE INPUT: true; the input reads as it did. -/
def letterBackSpec : ChangeSpec := { name := "letterBack", fn := fun _ => fun
  | [d1, d2] => { results := [.lit (.bool true)], args := [d1, d2] }
  | _ => none }
def letterBackRow : OpenClaim := { program := "ytplcdjmidelboaa", sum := "6af16d55817942be9f27d9482108f403028883f0fa41448c9b28b833cc4d7368", func := "espalier/espalierlaw14.LetterBack", spec := "letterBack", unfollowed := true, recurses := true, apart := false }
def LetterBackSaid : Prop := letterBackRow.holds Try.pinned (OpenSpec.ofChange letterBackSpec)

/-- ITS FALSE NEIGHBOUR: 'it returns false'. Refute it at one input. -/
def letterBackWrong : ChangeSpec := { name := "letterBack", fn := fun _ => fun
  | [d1, d2] => { results := [.lit (.bool false)], args := [d1, d2] }
  | _ => none }
def LetterBackWrongFalsely : Prop := letterBackRow.holds Try.pinned (OpenSpec.ofChange letterBackWrong)

/-- 'espalierlaw14.LetterCut': WHATEVER THE INPUT: true; the input reads as it did. -/
def letterCutSpec : ChangeSpec := { name := "letterCut", fn := fun _ => fun
  | [d1, d2, d3] => { results := [.lit (.bool true)], args := [d1, d2, d3] }
  | _ => none }
def letterCutRow : OpenClaim := { program := "ytplcdjmidelboaa", sum := "6af16d55817942be9f27d9482108f403028883f0fa41448c9b28b833cc4d7368", func := "espalier/espalierlaw14.LetterCut", spec := "letterCut", unfollowed := true, recurses := true, apart := false }
def LetterCutSaid : Prop := letterCutRow.holds Try.pinned (OpenSpec.ofChange letterCutSpec)

/-- ITS FALSE NEIGHBOUR: 'it returns false'. Refute it at one input. -/
def letterCutWrong : ChangeSpec := { name := "letterCut", fn := fun _ => fun
  | [d1, d2, d3] => { results := [.lit (.bool false)], args := [d1, d2, d3] }
  | _ => none }
def LetterCutWrongFalsely : Prop := letterCutRow.holds Try.pinned (OpenSpec.ofChange letterCutWrong)

/-- 'espalierlaw14.LetterApart': WHATEVER THE INPUT: true; the input reads as it did. -/
def letterApartSpec : ChangeSpec := { name := "letterApart", fn := fun _ => fun
  | [d1, d2] => { results := [.lit (.bool true)], args := [d1, d2] }
  | _ => none }
def letterApartRow : OpenClaim := { program := "ytplcdjmidelboaa", sum := "6af16d55817942be9f27d9482108f403028883f0fa41448c9b28b833cc4d7368", func := "espalier/espalierlaw14.LetterApart", spec := "letterApart", unfollowed := true, recurses := true, apart := false }
def LetterApartSaid : Prop := letterApartRow.holds Try.pinned (OpenSpec.ofChange letterApartSpec)

/-- ITS FALSE NEIGHBOUR: 'it returns false'. Refute it at one input. -/
def letterApartWrong : ChangeSpec := { name := "letterApart", fn := fun _ => fun
  | [d1, d2] => { results := [.lit (.bool false)], args := [d1, d2] }
  | _ => none }
def LetterApartWrongFalsely : Prop := letterApartRow.holds Try.pinned (OpenSpec.ofChange letterApartWrong)

/- THE SECOND FORM. 'bulk': how many values and letters a reading holds, each counted each time it is reached (what is shared counts as often as it is met; a slice's spare places count too). A statement '..UptoSaid' is the law's where the arguments, and the package variables that the reading takes, are together of bulk at most 1048576: NARROWER than '..Said'. Prove '..Said' where nothing that the law and all that it calls make is longer than what came in: it says more and counts as full. Else prove '..UptoSaid'. A law counts once. -/
mutual
def uptoBulk {H : Type} : DataW H → Nat
  | .lit (.string bytes) => bytes.length + 1
  | .lit _ => 1
  | .nil => 1
  | .ptr d => uptoBulk d + 1
  | .slice elems spare => uptoBulkAll elems + uptoBulkAll spare + 1
  | .agg parts => uptoBulkAll parts + 1
  | .iface _ d => uptoBulk d + 1
  | .map entries => uptoBulkEntries entries + 1
  | .held _ => 1
def uptoBulkAll {H : Type} : List (DataW H) → Nat
  | [] => 0
  | d :: r => uptoBulk d + uptoBulkAll r
def uptoBulkEntries {H : Type} : List (Lit × DataW H) → Nat
  | [] => 0
  | x :: r => uptoBulkEntry x + uptoBulkEntries r
def uptoBulkEntry {H : Type} : Lit × DataW H → Nat
  | (.string bytes, d) => bytes.length + uptoBulk d + 1
  | (_, d) => uptoBulk d + 1
 end
def uptoSmall : (H : Type) → List (DataW H) → Bool := fun _ ds => decide (uptoBulkAll ds ≤ 1048576)
def OpenSpec.upto (s : _root_.Go.ChangeSpec) : _root_.Go.OpenSpec := { _root_.Go.OpenSpec.ofChange s with cond := some uptoSmall }

/-- 'espalierlaw14.LetterPuts', WHERE WHAT IT READS IS OF BULK AT MOST 1048576: true; the input reads as it did. -/
def letterPutsUptoRow : OpenClaim := { program := "ytplcdjmidelboaa", sum := "6af16d55817942be9f27d9482108f403028883f0fa41448c9b28b833cc4d7368", func := "espalier/espalierlaw14.LetterPuts", spec := "letterPuts", unfollowed := true, recurses := true, apart := false, narrowed := true }
def LetterPutsUptoSaid : Prop := letterPutsUptoRow.holds Try.pinned (OpenSpec.upto letterPutsSpec)

/-- 'espalierlaw14.LetterGets', WHERE WHAT IT READS IS OF BULK AT MOST 1048576: true; the input reads as it did. -/
def letterGetsUptoRow : OpenClaim := { program := "ytplcdjmidelboaa", sum := "6af16d55817942be9f27d9482108f403028883f0fa41448c9b28b833cc4d7368", func := "espalier/espalierlaw14.LetterGets", spec := "letterGets", unfollowed := true, recurses := true, apart := false, narrowed := true }
def LetterGetsUptoSaid : Prop := letterGetsUptoRow.holds Try.pinned (OpenSpec.upto letterGetsSpec)

/-- 'espalierlaw14.LetterBack', WHERE WHAT IT READS IS OF BULK AT MOST 1048576: true; the input reads as it did. -/
def letterBackUptoRow : OpenClaim := { program := "ytplcdjmidelboaa", sum := "6af16d55817942be9f27d9482108f403028883f0fa41448c9b28b833cc4d7368", func := "espalier/espalierlaw14.LetterBack", spec := "letterBack", unfollowed := true, recurses := true, apart := false, narrowed := true }
def LetterBackUptoSaid : Prop := letterBackUptoRow.holds Try.pinned (OpenSpec.upto letterBackSpec)

/-- 'espalierlaw14.LetterCut', WHERE WHAT IT READS IS OF BULK AT MOST 1048576: true; the input reads as it did. -/
def letterCutUptoRow : OpenClaim := { program := "ytplcdjmidelboaa", sum := "6af16d55817942be9f27d9482108f403028883f0fa41448c9b28b833cc4d7368", func := "espalier/espalierlaw14.LetterCut", spec := "letterCut", unfollowed := true, recurses := true, apart := false, narrowed := true }
def LetterCutUptoSaid : Prop := letterCutUptoRow.holds Try.pinned (OpenSpec.upto letterCutSpec)

/-- 'espalierlaw14.LetterApart', WHERE WHAT IT READS IS OF BULK AT MOST 1048576: true; the input reads as it did. -/
def letterApartUptoRow : OpenClaim := { program := "ytplcdjmidelboaa", sum := "6af16d55817942be9f27d9482108f403028883f0fa41448c9b28b833cc4d7368", func := "espalier/espalierlaw14.LetterApart", spec := "letterApart", unfollowed := true, recurses := true, apart := false, narrowed := true }
def LetterApartUptoSaid : Prop := letterApartUptoRow.holds Try.pinned (OpenSpec.upto letterApartSpec)

end Rows
end Go.Proofs.Ytplcdjmidelboaa
