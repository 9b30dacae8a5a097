/-
  No cell of these rows narrows 'for every input' (looked for: loops, veiled, ifaces, maps, wideKeys, modest, calm, conditions, laid).
  DERIVED. THE GIVEN ROWS OF THIS SEAT. 6 by the template 'for every input the law returns true; each argument reads behind the call as it read before'; 0 by the template 'total and deterministic' (their statements: YtfajfmcabpmchaaTotals.lean).
  GIVEN WITH THE SEED: the statements are not yours to turn. If you find one false, say at which input.
  Laid BY PROGRAM, IN A SANDBOX (cutbox-rows.mjs): the forced cells as the released guide's own fill.sh prints them over the translation e9c2395cfa768206… (all of the seat's roots in one cut). By AI agents, Wed Nov 11 2026. No macro, syntax, notation, axiom, sorry.
-/
import Derived.Test.YtfajfmcabpmchaaChecked
import GoSem.Claim
import GoSem.ClaimJoined
import GoSem.ClaimMapViews
import Derived.JoinedTies
import Derived.KernelRfl
namespace Go.Proofs.Ytfajfmcabpmchaa
/- THE CELL 'sum', in the pinned program and in every row, IS THE sha256 OF THE DUMP (.gsa) THAT YtfajfmcabpmchaaProg.lean LOADS. Nothing in Lean hashes anything: it is a label: what it is worth is what the hold of that sum in a sandbox is worth. -/
noncomputable def Try.pinned : Pinned := { name := "ytfajfmcabpmchaa", sum := "e9c2395cfa768206451346720ee69de52e893e64b99ad055a0ac48b6c829086a", checked := Try.checked }
namespace Rows
def none {H : Type} : Left H := { results := [], args := [] }

/-- 'espalierlaw13.WalkDoes': WHATEVER THE INPUT: true; the input reads as it did. -/
def walkDoesSpec : ChangeSpec := { name := "walkDoes", fn := fun _ => fun
  | [d1, d2, d3, d4] => { results := [.lit (.bool true)], args := [d1, d2, d3, d4] }
  | _ => none }
def walkDoesRow : OpenClaim := { program := "ytfajfmcabpmchaa", sum := "e9c2395cfa768206451346720ee69de52e893e64b99ad055a0ac48b6c829086a", func := "espalier/espalierlaw13.WalkDoes", spec := "walkDoes", unfollowed := true, recurses := true, apart := false }
def WalkDoesSaid : Prop := walkDoesRow.holds Try.pinned (OpenSpec.ofChange walkDoesSpec)

/-- ITS FALSE NEIGHBOUR: 'it returns false'. Refute it at one input. -/
def walkDoesWrong : ChangeSpec := { name := "walkDoes", fn := fun _ => fun
  | [d1, d2, d3, d4] => { results := [.lit (.bool false)], args := [d1, d2, d3, d4] }
  | _ => none }
def WalkDoesWrongFalsely : Prop := walkDoesRow.holds Try.pinned (OpenSpec.ofChange walkDoesWrong)

/-- 'espalierlaw13.WalkSettles': WHATEVER THE INPUT: true; the input reads as it did. -/
def walkSettlesSpec : ChangeSpec := { name := "walkSettles", fn := fun _ => fun
  | [d1, d2] => { results := [.lit (.bool true)], args := [d1, d2] }
  | _ => none }
def walkSettlesRow : OpenClaim := { program := "ytfajfmcabpmchaa", sum := "e9c2395cfa768206451346720ee69de52e893e64b99ad055a0ac48b6c829086a", func := "espalier/espalierlaw13.WalkSettles", spec := "walkSettles", unfollowed := true, recurses := true, apart := false }
def WalkSettlesSaid : Prop := walkSettlesRow.holds Try.pinned (OpenSpec.ofChange walkSettlesSpec)

/-- ITS FALSE NEIGHBOUR: 'it returns false'. Refute it at one input. -/
def walkSettlesWrong : ChangeSpec := { name := "walkSettles", fn := fun _ => fun
  | [d1, d2] => { results := [.lit (.bool false)], args := [d1, d2] }
  | _ => none }
def WalkSettlesWrongFalsely : Prop := walkSettlesRow.holds Try.pinned (OpenSpec.ofChange walkSettlesWrong)

/-- 'espalierlaw13.WalkEnds': WHATEVER THE INPUT: true; the input reads as it did. -/
def walkEndsSpec : ChangeSpec := { name := "walkEnds", fn := fun _ => fun
  | [d1, d2, d3, d4] => { results := [.lit (.bool true)], args := [d1, d2, d3, d4] }
  | _ => none }
def walkEndsRow : OpenClaim := { program := "ytfajfmcabpmchaa", sum := "e9c2395cfa768206451346720ee69de52e893e64b99ad055a0ac48b6c829086a", func := "espalier/espalierlaw13.WalkEnds", spec := "walkEnds", unfollowed := true, recurses := true, apart := false }
def WalkEndsSaid : Prop := walkEndsRow.holds Try.pinned (OpenSpec.ofChange walkEndsSpec)

/-- ITS FALSE NEIGHBOUR: 'it returns false'. Refute it at one input. -/
def walkEndsWrong : ChangeSpec := { name := "walkEnds", fn := fun _ => fun
  | [d1, d2, d3, d4] => { results := [.lit (.bool false)], args := [d1, d2, d3, d4] }
  | _ => none }
def WalkEndsWrongFalsely : Prop := walkEndsRow.holds Try.pinned (OpenSpec.ofChange walkEndsWrong)

/-- 'espalierlaw13.WalkHalves': WHATEVER THE INPUT: true; the input reads as it did. -/
def walkHalvesSpec : ChangeSpec := { name := "walkHalves", fn := fun _ => fun
  | [d1, d2, d3, d4] => { results := [.lit (.bool true)], args := [d1, d2, d3, d4] }
  | _ => none }
def walkHalvesRow : OpenClaim := { program := "ytfajfmcabpmchaa", sum := "e9c2395cfa768206451346720ee69de52e893e64b99ad055a0ac48b6c829086a", func := "espalier/espalierlaw13.WalkHalves", spec := "walkHalves", unfollowed := true, recurses := true, apart := false }
def WalkHalvesSaid : Prop := walkHalvesRow.holds Try.pinned (OpenSpec.ofChange walkHalvesSpec)

/-- ITS FALSE NEIGHBOUR: 'it returns false'. Refute it at one input. -/
def walkHalvesWrong : ChangeSpec := { name := "walkHalves", fn := fun _ => fun
  | [d1, d2, d3, d4] => { results := [.lit (.bool false)], args := [d1, d2, d3, d4] }
  | _ => none }
def WalkHalvesWrongFalsely : Prop := walkHalvesRow.holds Try.pinned (OpenSpec.ofChange walkHalvesWrong)

/-- 'espalierlaw13.WalkMore': WHATEVER THE INPUT: true; the input reads as it did. -/
def walkMoreSpec : ChangeSpec := { name := "walkMore", fn := fun _ => fun
  | [d1, d2, d3, d4, d5] => { results := [.lit (.bool true)], args := [d1, d2, d3, d4, d5] }
  | _ => none }
def walkMoreRow : OpenClaim := { program := "ytfajfmcabpmchaa", sum := "e9c2395cfa768206451346720ee69de52e893e64b99ad055a0ac48b6c829086a", func := "espalier/espalierlaw13.WalkMore", spec := "walkMore", unfollowed := true, recurses := true, apart := false }
def WalkMoreSaid : Prop := walkMoreRow.holds Try.pinned (OpenSpec.ofChange walkMoreSpec)

/-- ITS FALSE NEIGHBOUR: 'it returns false'. Refute it at one input. -/
def walkMoreWrong : ChangeSpec := { name := "walkMore", fn := fun _ => fun
  | [d1, d2, d3, d4, d5] => { results := [.lit (.bool false)], args := [d1, d2, d3, d4, d5] }
  | _ => none }
def WalkMoreWrongFalsely : Prop := walkMoreRow.holds Try.pinned (OpenSpec.ofChange walkMoreWrong)

/-- 'espalierlaw13.WalkNext': WHATEVER THE INPUT: true; the input reads as it did. -/
def walkNextSpec : ChangeSpec := { name := "walkNext", fn := fun _ => fun
  | [d1, d2, d3, d4] => { results := [.lit (.bool true)], args := [d1, d2, d3, d4] }
  | _ => none }
def walkNextRow : OpenClaim := { program := "ytfajfmcabpmchaa", sum := "e9c2395cfa768206451346720ee69de52e893e64b99ad055a0ac48b6c829086a", func := "espalier/espalierlaw13.WalkNext", spec := "walkNext", unfollowed := true, recurses := true, apart := false }
def WalkNextSaid : Prop := walkNextRow.holds Try.pinned (OpenSpec.ofChange walkNextSpec)

/-- ITS FALSE NEIGHBOUR: 'it returns false'. Refute it at one input. -/
def walkNextWrong : ChangeSpec := { name := "walkNext", fn := fun _ => fun
  | [d1, d2, d3, d4] => { results := [.lit (.bool false)], args := [d1, d2, d3, d4] }
  | _ => none }
def WalkNextWrongFalsely : Prop := walkNextRow.holds Try.pinned (OpenSpec.ofChange walkNextWrong)

/- THE SECOND FORM. 'bulk': how many values and letters a reading holds, each counted each time it is reached (what is shared counts as often as it is met; a slice's spare places count too). A statement '..UptoSaid' is the law's where the arguments, and the package variables that the reading takes, are together of bulk at most 1048576: NARROWER than '..Said'. Prove '..Said' where nothing that the law and all that it calls make is longer than what came in: it says more and counts as full. Else prove '..UptoSaid'. A law counts once. -/
mutual
def uptoBulk {H : Type} : DataW H → Nat
  | .lit (.string bytes) => bytes.length + 1
  | .lit _ => 1
  | .nil => 1
  | .ptr d => uptoBulk d + 1
  | .slice elems spare => uptoBulkAll elems + uptoBulkAll spare + 1
  | .agg parts => uptoBulkAll parts + 1
  | .iface _ d => uptoBulk d + 1
  | .map entries => uptoBulkEntries entries + 1
  | .held _ => 1
def uptoBulkAll {H : Type} : List (DataW H) → Nat
  | [] => 0
  | d :: r => uptoBulk d + uptoBulkAll r
def uptoBulkEntries {H : Type} : List (Lit × DataW H) → Nat
  | [] => 0
  | x :: r => uptoBulkEntry x + uptoBulkEntries r
def uptoBulkEntry {H : Type} : Lit × DataW H → Nat
  | (.string bytes, d) => bytes.length + uptoBulk d + 1
  | (_, d) => uptoBulk d + 1
 end
def uptoSmall : (H : Type) → List (DataW H) → Bool := fun _ ds => decide (uptoBulkAll ds ≤ 1048576)
def OpenSpec.upto (s : _root_.Go.ChangeSpec) : _root_.Go.OpenSpec := { _root_.Go.OpenSpec.ofChange s with cond := some uptoSmall }

/-- 'espalierlaw13.WalkDoes', WHERE WHAT IT READS IS OF BULK AT MOST 1048576: true; the input reads as it did. -/
def walkDoesUptoRow : OpenClaim := { program := "ytfajfmcabpmchaa", sum := "e9c2395cfa768206451346720ee69de52e893e64b99ad055a0ac48b6c829086a", func := "espalier/espalierlaw13.WalkDoes", spec := "walkDoes", unfollowed := true, recurses := true, apart := false, narrowed := true }
def WalkDoesUptoSaid : Prop := walkDoesUptoRow.holds Try.pinned (OpenSpec.upto walkDoesSpec)

/-- 'espalierlaw13.WalkSettles', WHERE WHAT IT READS IS OF BULK AT MOST 1048576: true; the input reads as it did. -/
def walkSettlesUptoRow : OpenClaim := { program := "ytfajfmcabpmchaa", sum := "e9c2395cfa768206451346720ee69de52e893e64b99ad055a0ac48b6c829086a", func := "espalier/espalierlaw13.WalkSettles", spec := "walkSettles", unfollowed := true, recurses := true, apart := false, narrowed := true }
def WalkSettlesUptoSaid : Prop := walkSettlesUptoRow.holds Try.pinned (OpenSpec.upto walkSettlesSpec)

/-- 'espalierlaw13.WalkEnds', WHERE WHAT IT READS IS OF BULK AT MOST 1048576: true; the input reads as it did. -/
def walkEndsUptoRow : OpenClaim := { program := "ytfajfmcabpmchaa", sum := "e9c2395cfa768206451346720ee69de52e893e64b99ad055a0ac48b6c829086a", func := "espalier/espalierlaw13.WalkEnds", spec := "walkEnds", unfollowed := true, recurses := true, apart := false, narrowed := true }
def WalkEndsUptoSaid : Prop := walkEndsUptoRow.holds Try.pinned (OpenSpec.upto walkEndsSpec)

/-- 'espalierlaw13.WalkHalves', WHERE WHAT IT READS IS OF BULK AT MOST 1048576: true; the input reads as it did. -/
def walkHalvesUptoRow : OpenClaim := { program := "ytfajfmcabpmchaa", sum := "e9c2395cfa768206451346720ee69de52e893e64b99ad055a0ac48b6c829086a", func := "espalier/espalierlaw13.WalkHalves", spec := "walkHalves", unfollowed := true, recurses := true, apart := false, narrowed := true }
def WalkHalvesUptoSaid : Prop := walkHalvesUptoRow.holds Try.pinned (OpenSpec.upto walkHalvesSpec)

/-- 'espalierlaw13.WalkMore', WHERE WHAT IT READS IS OF BULK AT MOST 1048576: true; the input reads as it did. -/
def walkMoreUptoRow : OpenClaim := { program := "ytfajfmcabpmchaa", sum := "e9c2395cfa768206451346720ee69de52e893e64b99ad055a0ac48b6c829086a", func := "espalier/espalierlaw13.WalkMore", spec := "walkMore", unfollowed := true, recurses := true, apart := false, narrowed := true }
def WalkMoreUptoSaid : Prop := walkMoreUptoRow.holds Try.pinned (OpenSpec.upto walkMoreSpec)

/-- 'espalierlaw13.WalkNext', WHERE WHAT IT READS IS OF BULK AT MOST 1048576: true; the input reads as it did. -/
def walkNextUptoRow : OpenClaim := { program := "ytfajfmcabpmchaa", sum := "e9c2395cfa768206451346720ee69de52e893e64b99ad055a0ac48b6c829086a", func := "espalier/espalierlaw13.WalkNext", spec := "walkNext", unfollowed := true, recurses := true, apart := false, narrowed := true }
def WalkNextUptoSaid : Prop := walkNextUptoRow.holds Try.pinned (OpenSpec.upto walkNextSpec)

end Rows
end Go.Proofs.Ytfajfmcabpmchaa
