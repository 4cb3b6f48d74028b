/-
  No cell of these rows narrows 'for every input' (looked for: loops, veiled, ifaces, maps, wideKeys, modest, calm, conditions, laid).
  DERIVED. THE GIVEN ROWS OF THIS SEAT. 5 by the template 'for every input the law returns true; each argument reads behind the call as it read before'; 0 by the template 'total and deterministic' (their statements: YtgfiofogcnnkhaaTotals.lean).
  GIVEN WITH THE SEED: the statements are not yours to turn. If you find one false, say at which input.
  Laid BY PROGRAM, IN A SANDBOX (cutbox-rows.mjs): the forced cells as the released guide's own fill.sh prints them over the translation 82f20050082ec1be… (all of the seat's roots in one cut). By AI agents, Wed Nov 11 2026. No macro, syntax, notation, axiom, sorry.
-/
import Derived.Test.YtgfiofogcnnkhaaChecked
import GoSem.Claim
import GoSem.ClaimJoined
import GoSem.ClaimMapViews
import Derived.JoinedTies
import Derived.KernelRfl
namespace Go.Proofs.Ytgfiofogcnnkhaa
/- THE CELL 'sum', in the pinned program and in every row, IS THE sha256 OF THE DUMP (.gsa) THAT YtgfiofogcnnkhaaProg.lean LOADS. Nothing in Lean hashes anything: it is a label: what it is worth is what the hold of that sum in a sandbox is worth. -/
noncomputable def Try.pinned : Pinned := { name := "ytgfiofogcnnkhaa", sum := "82f20050082ec1be2b36ab913d96a933495537ec1064c2a9f172597ca364ae8c", checked := Try.checked }
namespace Rows
def none {H : Type} : Left H := { results := [], args := [] }

/-- 'tracerylaw4.GraphAll': WHATEVER THE INPUT: true; the input reads as it did. -/
def graphAllSpec : ChangeSpec := { name := "graphAll", fn := fun _ => fun
  | [d1, d2] => { results := [.lit (.bool true)], args := [d1, d2] }
  | _ => none }
def graphAllRow : OpenClaim := { program := "ytgfiofogcnnkhaa", sum := "82f20050082ec1be2b36ab913d96a933495537ec1064c2a9f172597ca364ae8c", func := "tracery/tracerylaw4.GraphAll", spec := "graphAll", inPlace := ["slices.overlaps[tracery/graph.edge]", "slices.overlaps[int]"], unfollowed := true, recurses := true, apart := false }
def GraphAllSaid : Prop := graphAllRow.holds Try.pinned (OpenSpec.ofChange graphAllSpec)

/-- ITS FALSE NEIGHBOUR: 'it returns false'. Refute it at one input. -/
def graphAllWrong : ChangeSpec := { name := "graphAll", fn := fun _ => fun
  | [d1, d2] => { results := [.lit (.bool false)], args := [d1, d2] }
  | _ => none }
def GraphAllWrongFalsely : Prop := graphAllRow.holds Try.pinned (OpenSpec.ofChange graphAllWrong)

/-- 'tracerylaw4.GraphSplits': WHATEVER THE INPUT: true; the input reads as it did. -/
def graphSplitsSpec : ChangeSpec := { name := "graphSplits", fn := fun _ => fun
  | [d1, d2] => { results := [.lit (.bool true)], args := [d1, d2] }
  | _ => none }
def graphSplitsRow : OpenClaim := { program := "ytgfiofogcnnkhaa", sum := "82f20050082ec1be2b36ab913d96a933495537ec1064c2a9f172597ca364ae8c", func := "tracery/tracerylaw4.GraphSplits", spec := "graphSplits", inPlace := ["slices.overlaps[tracery/graph.edge]", "slices.overlaps[int]"], unfollowed := true, recurses := true, apart := false }
def GraphSplitsSaid : Prop := graphSplitsRow.holds Try.pinned (OpenSpec.ofChange graphSplitsSpec)

/-- ITS FALSE NEIGHBOUR: 'it returns false'. Refute it at one input. -/
def graphSplitsWrong : ChangeSpec := { name := "graphSplits", fn := fun _ => fun
  | [d1, d2] => { results := [.lit (.bool false)], args := [d1, d2] }
  | _ => none }
def GraphSplitsWrongFalsely : Prop := graphSplitsRow.holds Try.pinned (OpenSpec.ofChange graphSplitsWrong)

/-- 'tracerylaw4.GraphMarks': WHATEVER THE INPUT: true; the input reads as it did. -/
def graphMarksSpec : ChangeSpec := { name := "graphMarks", fn := fun _ => fun
  | [d1, d2] => { results := [.lit (.bool true)], args := [d1, d2] }
  | _ => none }
def graphMarksRow : OpenClaim := { program := "ytgfiofogcnnkhaa", sum := "82f20050082ec1be2b36ab913d96a933495537ec1064c2a9f172597ca364ae8c", func := "tracery/tracerylaw4.GraphMarks", spec := "graphMarks", inPlace := ["slices.overlaps[tracery/graph.edge]", "slices.overlaps[int]"], unfollowed := true, recurses := true, apart := false }
def GraphMarksSaid : Prop := graphMarksRow.holds Try.pinned (OpenSpec.ofChange graphMarksSpec)

/-- ITS FALSE NEIGHBOUR: 'it returns false'. Refute it at one input. -/
def graphMarksWrong : ChangeSpec := { name := "graphMarks", fn := fun _ => fun
  | [d1, d2] => { results := [.lit (.bool false)], args := [d1, d2] }
  | _ => none }
def GraphMarksWrongFalsely : Prop := graphMarksRow.holds Try.pinned (OpenSpec.ofChange graphMarksWrong)

/-- 'tracerylaw4.GraphNone': WHATEVER THE INPUT: true; the input reads as it did. -/
def graphNoneSpec : ChangeSpec := { name := "graphNone", fn := fun _ => fun
  | [d] => { results := [.lit (.bool true)], args := [d] }
  | _ => none }
def graphNoneRow : OpenClaim := { program := "ytgfiofogcnnkhaa", sum := "82f20050082ec1be2b36ab913d96a933495537ec1064c2a9f172597ca364ae8c", func := "tracery/tracerylaw4.GraphNone", spec := "graphNone", inPlace := ["slices.overlaps[tracery/graph.edge]", "slices.overlaps[int]"], unfollowed := true, recurses := true, apart := false }
def GraphNoneSaid : Prop := graphNoneRow.holds Try.pinned (OpenSpec.ofChange graphNoneSpec)

/-- ITS FALSE NEIGHBOUR: 'it returns false'. Refute it at one input. -/
def graphNoneWrong : ChangeSpec := { name := "graphNone", fn := fun _ => fun
  | [d] => { results := [.lit (.bool false)], args := [d] }
  | _ => none }
def GraphNoneWrongFalsely : Prop := graphNoneRow.holds Try.pinned (OpenSpec.ofChange graphNoneWrong)

/-- 'tracerylaw4.GraphIds': WHATEVER THE INPUT: true; the input reads as it did. -/
def graphIdsSpec : ChangeSpec := { name := "graphIds", fn := fun _ => fun
  | [d1, d2] => { results := [.lit (.bool true)], args := [d1, d2] }
  | _ => none }
def graphIdsRow : OpenClaim := { program := "ytgfiofogcnnkhaa", sum := "82f20050082ec1be2b36ab913d96a933495537ec1064c2a9f172597ca364ae8c", func := "tracery/tracerylaw4.GraphIds", spec := "graphIds", inPlace := ["slices.overlaps[tracery/graph.edge]", "slices.overlaps[int]"], unfollowed := true, recurses := true, apart := false }
def GraphIdsSaid : Prop := graphIdsRow.holds Try.pinned (OpenSpec.ofChange graphIdsSpec)

/-- ITS FALSE NEIGHBOUR: 'it returns false'. Refute it at one input. -/
def graphIdsWrong : ChangeSpec := { name := "graphIds", fn := fun _ => fun
  | [d1, d2] => { results := [.lit (.bool false)], args := [d1, d2] }
  | _ => none }
def GraphIdsWrongFalsely : Prop := graphIdsRow.holds Try.pinned (OpenSpec.ofChange graphIdsWrong)

/- THE SECOND FORM. 'bulk': how many values and letters a reading holds, each counted each time it is reached (what is shared counts as often as it is met; a slice's spare places count too). A statement '..UptoSaid' is the law's where the arguments, and the package variables that the reading takes, are together of bulk at most 1048576: NARROWER than '..Said'. Prove '..Said' where nothing that the law and all that it calls make is longer than what came in: it says more and counts as full. Else prove '..UptoSaid'. A law counts once. -/
mutual
def uptoBulk {H : Type} : DataW H → Nat
  | .lit (.string bytes) => bytes.length + 1
  | .lit _ => 1
  | .nil => 1
  | .ptr d => uptoBulk d + 1
  | .slice elems spare => uptoBulkAll elems + uptoBulkAll spare + 1
  | .agg parts => uptoBulkAll parts + 1
  | .iface _ d => uptoBulk d + 1
  | .map entries => uptoBulkEntries entries + 1
  | .held _ => 1
def uptoBulkAll {H : Type} : List (DataW H) → Nat
  | [] => 0
  | d :: r => uptoBulk d + uptoBulkAll r
def uptoBulkEntries {H : Type} : List (Lit × DataW H) → Nat
  | [] => 0
  | x :: r => uptoBulkEntry x + uptoBulkEntries r
def uptoBulkEntry {H : Type} : Lit × DataW H → Nat
  | (.string bytes, d) => bytes.length + uptoBulk d + 1
  | (_, d) => uptoBulk d + 1
 end
def uptoSmall : (H : Type) → List (DataW H) → Bool := fun _ ds => decide (uptoBulkAll ds ≤ 1048576)
def OpenSpec.upto (s : _root_.Go.ChangeSpec) : _root_.Go.OpenSpec := { _root_.Go.OpenSpec.ofChange s with cond := some uptoSmall }

/-- 'tracerylaw4.GraphAll', WHERE WHAT IT READS IS OF BULK AT MOST 1048576: true; the input reads as it did. -/
def graphAllUptoRow : OpenClaim := { program := "ytgfiofogcnnkhaa", sum := "82f20050082ec1be2b36ab913d96a933495537ec1064c2a9f172597ca364ae8c", func := "tracery/tracerylaw4.GraphAll", spec := "graphAll", inPlace := ["slices.overlaps[tracery/graph.edge]", "slices.overlaps[int]"], unfollowed := true, recurses := true, apart := false, narrowed := true }
def GraphAllUptoSaid : Prop := graphAllUptoRow.holds Try.pinned (OpenSpec.upto graphAllSpec)

/-- 'tracerylaw4.GraphSplits', WHERE WHAT IT READS IS OF BULK AT MOST 1048576: true; the input reads as it did. -/
def graphSplitsUptoRow : OpenClaim := { program := "ytgfiofogcnnkhaa", sum := "82f20050082ec1be2b36ab913d96a933495537ec1064c2a9f172597ca364ae8c", func := "tracery/tracerylaw4.GraphSplits", spec := "graphSplits", inPlace := ["slices.overlaps[tracery/graph.edge]", "slices.overlaps[int]"], unfollowed := true, recurses := true, apart := false, narrowed := true }
def GraphSplitsUptoSaid : Prop := graphSplitsUptoRow.holds Try.pinned (OpenSpec.upto graphSplitsSpec)

/-- 'tracerylaw4.GraphMarks', WHERE WHAT IT READS IS OF BULK AT MOST 1048576: true; the input reads as it did. -/
def graphMarksUptoRow : OpenClaim := { program := "ytgfiofogcnnkhaa", sum := "82f20050082ec1be2b36ab913d96a933495537ec1064c2a9f172597ca364ae8c", func := "tracery/tracerylaw4.GraphMarks", spec := "graphMarks", inPlace := ["slices.overlaps[tracery/graph.edge]", "slices.overlaps[int]"], unfollowed := true, recurses := true, apart := false, narrowed := true }
def GraphMarksUptoSaid : Prop := graphMarksUptoRow.holds Try.pinned (OpenSpec.upto graphMarksSpec)

/-- 'tracerylaw4.GraphNone', WHERE WHAT IT READS IS OF BULK AT MOST 1048576: true; the input reads as it did. -/
def graphNoneUptoRow : OpenClaim := { program := "ytgfiofogcnnkhaa", sum := "82f20050082ec1be2b36ab913d96a933495537ec1064c2a9f172597ca364ae8c", func := "tracery/tracerylaw4.GraphNone", spec := "graphNone", inPlace := ["slices.overlaps[tracery/graph.edge]", "slices.overlaps[int]"], unfollowed := true, recurses := true, apart := false, narrowed := true }
def GraphNoneUptoSaid : Prop := graphNoneUptoRow.holds Try.pinned (OpenSpec.upto graphNoneSpec)

/-- 'tracerylaw4.GraphIds', WHERE WHAT IT READS IS OF BULK AT MOST 1048576: true; the input reads as it did. -/
def graphIdsUptoRow : OpenClaim := { program := "ytgfiofogcnnkhaa", sum := "82f20050082ec1be2b36ab913d96a933495537ec1064c2a9f172597ca364ae8c", func := "tracery/tracerylaw4.GraphIds", spec := "graphIds", inPlace := ["slices.overlaps[tracery/graph.edge]", "slices.overlaps[int]"], unfollowed := true, recurses := true, apart := false, narrowed := true }
def GraphIdsUptoSaid : Prop := graphIdsUptoRow.holds Try.pinned (OpenSpec.upto graphIdsSpec)

end Rows
end Go.Proofs.Ytgfiofogcnnkhaa
