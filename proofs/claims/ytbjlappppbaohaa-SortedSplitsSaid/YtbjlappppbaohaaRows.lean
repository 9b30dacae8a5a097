/-
  No cell of these rows narrows 'for every input' (looked for: loops, veiled, ifaces, maps, wideKeys, modest, calm, conditions, laid).
  DERIVED. THE GIVEN ROWS OF THIS SEAT. 5 by the template 'for every input the law returns true; each argument reads behind the call as it read before'; 0 by the template 'total and deterministic' (their statements: YtbjlappppbaohaaTotals.lean).
  GIVEN WITH THE SEED: the statements are not yours to turn. If you find one false, say at which input.
  Laid BY PROGRAM, IN A SANDBOX (cutbox-rows.mjs): the forced cells as the released guide's own fill.sh prints them over the translation d490ee3776716df2… (all of the seat's roots in one cut). By AI agents, Wed Nov 11 2026. No macro, syntax, notation, axiom, sorry.
-/
import Derived.Test.YtbjlappppbaohaaChecked
import GoSem.Claim
import GoSem.ClaimJoined
import GoSem.ClaimMapViews
import Derived.JoinedTies
import Derived.KernelRfl
namespace Go.Proofs.Ytbjlappppbaohaa
/- THE CELL 'sum', in the pinned program and in every row, IS THE sha256 OF THE DUMP (.gsa) THAT YtbjlappppbaohaaProg.lean LOADS. Nothing in Lean hashes anything: it is a label: what it is worth is what the hold of that sum in a sandbox is worth. -/
noncomputable def Try.pinned : Pinned := { name := "ytbjlappppbaohaa", sum := "d490ee3776716df2df876407895acb43981205331ec1fbfbb6743befb5debc65", checked := Try.checked }
namespace Rows
def none {H : Type} : Left H := { results := [], args := [] }

/-- 'espalierlaw07.SortedDoes': WHATEVER THE INPUT: true; the input reads as it did. -/
def sortedDoesSpec : ChangeSpec := { name := "sortedDoes", fn := fun _ => fun
  | [d] => { results := [.lit (.bool true)], args := [d] }
  | _ => none }
def sortedDoesRow : OpenClaim := { program := "ytbjlappppbaohaa", sum := "d490ee3776716df2df876407895acb43981205331ec1fbfbb6743befb5debc65", func := "espalier/espalierlaw07.SortedDoes", spec := "sortedDoes", inPlace := ["slices.overlaps[espalier/sorted.item]"], unfollowed := true, recurses := true, apart := false }
def SortedDoesSaid : Prop := sortedDoesRow.holds Try.pinned (OpenSpec.ofChange sortedDoesSpec)

/-- ITS FALSE NEIGHBOUR: 'it returns false'. Refute it at one input. -/
def sortedDoesWrong : ChangeSpec := { name := "sortedDoes", fn := fun _ => fun
  | [d] => { results := [.lit (.bool false)], args := [d] }
  | _ => none }
def SortedDoesWrongFalsely : Prop := sortedDoesRow.holds Try.pinned (OpenSpec.ofChange sortedDoesWrong)

/-- 'espalierlaw07.SortedKeeps': WHATEVER THE INPUT: true; the input reads as it did. -/
def sortedKeepsSpec : ChangeSpec := { name := "sortedKeeps", fn := fun _ => fun
  | [d1, d2, d3, d4] => { results := [.lit (.bool true)], args := [d1, d2, d3, d4] }
  | _ => none }
def sortedKeepsRow : OpenClaim := { program := "ytbjlappppbaohaa", sum := "d490ee3776716df2df876407895acb43981205331ec1fbfbb6743befb5debc65", func := "espalier/espalierlaw07.SortedKeeps", spec := "sortedKeeps", inPlace := ["slices.overlaps[espalier/sorted.item]"], unfollowed := true, recurses := true, apart := false }
def SortedKeepsSaid : Prop := sortedKeepsRow.holds Try.pinned (OpenSpec.ofChange sortedKeepsSpec)

/-- ITS FALSE NEIGHBOUR: 'it returns false'. Refute it at one input. -/
def sortedKeepsWrong : ChangeSpec := { name := "sortedKeeps", fn := fun _ => fun
  | [d1, d2, d3, d4] => { results := [.lit (.bool false)], args := [d1, d2, d3, d4] }
  | _ => none }
def SortedKeepsWrongFalsely : Prop := sortedKeepsRow.holds Try.pinned (OpenSpec.ofChange sortedKeepsWrong)

/-- 'espalierlaw07.SortedSplits': WHATEVER THE INPUT: true; the input reads as it did. -/
def sortedSplitsSpec : ChangeSpec := { name := "sortedSplits", fn := fun _ => fun
  | [d1, d2, d3, d4, d5] => { results := [.lit (.bool true)], args := [d1, d2, d3, d4, d5] }
  | _ => none }
def sortedSplitsRow : OpenClaim := { program := "ytbjlappppbaohaa", sum := "d490ee3776716df2df876407895acb43981205331ec1fbfbb6743befb5debc65", func := "espalier/espalierlaw07.SortedSplits", spec := "sortedSplits", inPlace := ["slices.overlaps[espalier/sorted.item]"], unfollowed := true, recurses := true, apart := false }
def SortedSplitsSaid : Prop := sortedSplitsRow.holds Try.pinned (OpenSpec.ofChange sortedSplitsSpec)

/-- ITS FALSE NEIGHBOUR: 'it returns false'. Refute it at one input. -/
def sortedSplitsWrong : ChangeSpec := { name := "sortedSplits", fn := fun _ => fun
  | [d1, d2, d3, d4, d5] => { results := [.lit (.bool false)], args := [d1, d2, d3, d4, d5] }
  | _ => none }
def SortedSplitsWrongFalsely : Prop := sortedSplitsRow.holds Try.pinned (OpenSpec.ofChange sortedSplitsWrong)

/-- 'espalierlaw07.SortedEnds': WHATEVER THE INPUT: true; the input reads as it did. -/
def sortedEndsSpec : ChangeSpec := { name := "sortedEnds", fn := fun _ => fun
  | [d] => { results := [.lit (.bool true)], args := [d] }
  | _ => none }
def sortedEndsRow : OpenClaim := { program := "ytbjlappppbaohaa", sum := "d490ee3776716df2df876407895acb43981205331ec1fbfbb6743befb5debc65", func := "espalier/espalierlaw07.SortedEnds", spec := "sortedEnds", inPlace := ["slices.overlaps[espalier/sorted.item]"], unfollowed := true, recurses := true, apart := false }
def SortedEndsSaid : Prop := sortedEndsRow.holds Try.pinned (OpenSpec.ofChange sortedEndsSpec)

/-- ITS FALSE NEIGHBOUR: 'it returns false'. Refute it at one input. -/
def sortedEndsWrong : ChangeSpec := { name := "sortedEnds", fn := fun _ => fun
  | [d] => { results := [.lit (.bool false)], args := [d] }
  | _ => none }
def SortedEndsWrongFalsely : Prop := sortedEndsRow.holds Try.pinned (OpenSpec.ofChange sortedEndsWrong)

/-- 'espalierlaw07.SortedNil': WHATEVER THE INPUT: true; the input reads as it did. -/
def sortedNilSpec : ChangeSpec := { name := "sortedNil", fn := fun _ => fun
  | [d1, d2] => { results := [.lit (.bool true)], args := [d1, d2] }
  | _ => none }
def sortedNilRow : OpenClaim := { program := "ytbjlappppbaohaa", sum := "d490ee3776716df2df876407895acb43981205331ec1fbfbb6743befb5debc65", func := "espalier/espalierlaw07.SortedNil", spec := "sortedNil", inPlace := ["slices.overlaps[espalier/sorted.item]"], unfollowed := true, recurses := true, apart := false }
def SortedNilSaid : Prop := sortedNilRow.holds Try.pinned (OpenSpec.ofChange sortedNilSpec)

/-- ITS FALSE NEIGHBOUR: 'it returns false'. Refute it at one input. -/
def sortedNilWrong : ChangeSpec := { name := "sortedNil", fn := fun _ => fun
  | [d1, d2] => { results := [.lit (.bool false)], args := [d1, d2] }
  | _ => none }
def SortedNilWrongFalsely : Prop := sortedNilRow.holds Try.pinned (OpenSpec.ofChange sortedNilWrong)

/- THE SECOND FORM. 'bulk': how many values and letters a reading holds, each counted each time it is reached (what is shared counts as often as it is met; a slice's spare places count too). A statement '..UptoSaid' is the law's where the arguments, and the package variables that the reading takes, are together of bulk at most 1048576: NARROWER than '..Said'. Prove '..Said' where nothing that the law and all that it calls make is longer than what came in: it says more and counts as full. Else prove '..UptoSaid'. A law counts once. -/
mutual
def uptoBulk {H : Type} : DataW H → Nat
  | .lit (.string bytes) => bytes.length + 1
  | .lit _ => 1
  | .nil => 1
  | .ptr d => uptoBulk d + 1
  | .slice elems spare => uptoBulkAll elems + uptoBulkAll spare + 1
  | .agg parts => uptoBulkAll parts + 1
  | .iface _ d => uptoBulk d + 1
  | .map entries => uptoBulkEntries entries + 1
  | .held _ => 1
def uptoBulkAll {H : Type} : List (DataW H) → Nat
  | [] => 0
  | d :: r => uptoBulk d + uptoBulkAll r
def uptoBulkEntries {H : Type} : List (Lit × DataW H) → Nat
  | [] => 0
  | x :: r => uptoBulkEntry x + uptoBulkEntries r
def uptoBulkEntry {H : Type} : Lit × DataW H → Nat
  | (.string bytes, d) => bytes.length + uptoBulk d + 1
  | (_, d) => uptoBulk d + 1
 end
def uptoSmall : (H : Type) → List (DataW H) → Bool := fun _ ds => decide (uptoBulkAll ds ≤ 1048576)
def OpenSpec.upto (s : _root_.Go.ChangeSpec) : _root_.Go.OpenSpec := { _root_.Go.OpenSpec.ofChange s with cond := some uptoSmall }

/-- 'espalierlaw07.SortedDoes', WHERE WHAT IT READS IS OF BULK AT MOST 1048576: true; the input reads as it did. -/
def sortedDoesUptoRow : OpenClaim := { program := "ytbjlappppbaohaa", sum := "d490ee3776716df2df876407895acb43981205331ec1fbfbb6743befb5debc65", func := "espalier/espalierlaw07.SortedDoes", spec := "sortedDoes", inPlace := ["slices.overlaps[espalier/sorted.item]"], unfollowed := true, recurses := true, apart := false, narrowed := true }
def SortedDoesUptoSaid : Prop := sortedDoesUptoRow.holds Try.pinned (OpenSpec.upto sortedDoesSpec)

/-- 'espalierlaw07.SortedKeeps', WHERE WHAT IT READS IS OF BULK AT MOST 1048576: true; the input reads as it did. -/
def sortedKeepsUptoRow : OpenClaim := { program := "ytbjlappppbaohaa", sum := "d490ee3776716df2df876407895acb43981205331ec1fbfbb6743befb5debc65", func := "espalier/espalierlaw07.SortedKeeps", spec := "sortedKeeps", inPlace := ["slices.overlaps[espalier/sorted.item]"], unfollowed := true, recurses := true, apart := false, narrowed := true }
def SortedKeepsUptoSaid : Prop := sortedKeepsUptoRow.holds Try.pinned (OpenSpec.upto sortedKeepsSpec)

/-- 'espalierlaw07.SortedSplits', WHERE WHAT IT READS IS OF BULK AT MOST 1048576: true; the input reads as it did. -/
def sortedSplitsUptoRow : OpenClaim := { program := "ytbjlappppbaohaa", sum := "d490ee3776716df2df876407895acb43981205331ec1fbfbb6743befb5debc65", func := "espalier/espalierlaw07.SortedSplits", spec := "sortedSplits", inPlace := ["slices.overlaps[espalier/sorted.item]"], unfollowed := true, recurses := true, apart := false, narrowed := true }
def SortedSplitsUptoSaid : Prop := sortedSplitsUptoRow.holds Try.pinned (OpenSpec.upto sortedSplitsSpec)

/-- 'espalierlaw07.SortedEnds', WHERE WHAT IT READS IS OF BULK AT MOST 1048576: true; the input reads as it did. -/
def sortedEndsUptoRow : OpenClaim := { program := "ytbjlappppbaohaa", sum := "d490ee3776716df2df876407895acb43981205331ec1fbfbb6743befb5debc65", func := "espalier/espalierlaw07.SortedEnds", spec := "sortedEnds", inPlace := ["slices.overlaps[espalier/sorted.item]"], unfollowed := true, recurses := true, apart := false, narrowed := true }
def SortedEndsUptoSaid : Prop := sortedEndsUptoRow.holds Try.pinned (OpenSpec.upto sortedEndsSpec)

/-- 'espalierlaw07.SortedNil', WHERE WHAT IT READS IS OF BULK AT MOST 1048576: true; the input reads as it did. -/
def sortedNilUptoRow : OpenClaim := { program := "ytbjlappppbaohaa", sum := "d490ee3776716df2df876407895acb43981205331ec1fbfbb6743befb5debc65", func := "espalier/espalierlaw07.SortedNil", spec := "sortedNil", inPlace := ["slices.overlaps[espalier/sorted.item]"], unfollowed := true, recurses := true, apart := false, narrowed := true }
def SortedNilUptoSaid : Prop := sortedNilUptoRow.holds Try.pinned (OpenSpec.upto sortedNilSpec)

end Rows
end Go.Proofs.Ytbjlappppbaohaa
