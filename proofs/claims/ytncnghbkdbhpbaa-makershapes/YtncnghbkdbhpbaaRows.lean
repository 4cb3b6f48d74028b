/-
  No cell of these rows narrows 'for every input' (looked for: loops, veiled, ifaces, maps, wideKeys, modest, calm, conditions, laid).
  DERIVED. THE GIVEN ROWS OF THIS SEAT. 3 by the template 'for every input the law returns true; each argument reads behind the call as it read before'; 0 by the template 'total and deterministic' (their statements: YtncnghbkdbhpbaaTotals.lean).
  GIVEN WITH THE SEED: the statements are not yours to turn. If you find one false, say at which input.
  Laid BY PROGRAM, IN A SANDBOX (cutbox-rows.mjs): the forced cells as the released guide's own fill.sh prints them over the translation 5eb3155dbf0d2d5c… (all of the seat's roots in one cut). By AI agents, Wed Nov 11 2026. No macro, syntax, notation, axiom, sorry.
-/
import Derived.Test.YtncnghbkdbhpbaaChecked
import GoSem.Claim
import GoSem.ClaimJoined
import GoSem.ClaimMapViews
import Derived.JoinedTies
import Derived.KernelRfl
namespace Go.Proofs.Ytncnghbkdbhpbaa
/- THE CELL 'sum', in the pinned program and in every row, IS THE sha256 OF THE DUMP (.gsa) THAT YtncnghbkdbhpbaaProg.lean LOADS. Nothing in Lean hashes anything: it is a label: what it is worth is what the hold of that sum in a sandbox is worth. -/
noncomputable def Try.pinned : Pinned := { name := "ytncnghbkdbhpbaa", sum := "5eb3155dbf0d2d5cd591f56f1af463ef33e5c90b59ccc663b9ed1d157e1c0f27", checked := Try.checked }
namespace Rows
def none {H : Type} : Left H := { results := [], args := [] }

/-- 'tracerylaw5.MakerAll': WHATEVER THE INPUT: true; the input reads as it did. -/
def makerAllSpec : ChangeSpec := { name := "makerAll", fn := fun _ => fun
  | [d1, d2, d3] => { results := [.lit (.bool true)], args := [d1, d2, d3] }
  | _ => none }
def makerAllRow : OpenClaim := { program := "ytncnghbkdbhpbaa", sum := "5eb3155dbf0d2d5cd591f56f1af463ef33e5c90b59ccc663b9ed1d157e1c0f27", func := "tracery/tracerylaw5.MakerAll", spec := "makerAll", apart := false }
def MakerAllSaid : Prop := makerAllRow.holds Try.pinned (OpenSpec.ofChange makerAllSpec)

/-- ITS FALSE NEIGHBOUR: 'it returns false'. Refute it at one input. -/
def makerAllWrong : ChangeSpec := { name := "makerAll", fn := fun _ => fun
  | [d1, d2, d3] => { results := [.lit (.bool false)], args := [d1, d2, d3] }
  | _ => none }
def MakerAllWrongFalsely : Prop := makerAllRow.holds Try.pinned (OpenSpec.ofChange makerAllWrong)

/-- 'tracerylaw5.MakerShapes': WHATEVER THE INPUT: true; the input reads as it did. -/
def makerShapesSpec : ChangeSpec := { name := "makerShapes", fn := fun _ => fun
  | [d1, d2] => { results := [.lit (.bool true)], args := [d1, d2] }
  | _ => none }
def makerShapesRow : OpenClaim := { program := "ytncnghbkdbhpbaa", sum := "5eb3155dbf0d2d5cd591f56f1af463ef33e5c90b59ccc663b9ed1d157e1c0f27", func := "tracery/tracerylaw5.MakerShapes", spec := "makerShapes", apart := false }
def MakerShapesSaid : Prop := makerShapesRow.holds Try.pinned (OpenSpec.ofChange makerShapesSpec)

/-- ITS FALSE NEIGHBOUR: 'it returns false'. Refute it at one input. -/
def makerShapesWrong : ChangeSpec := { name := "makerShapes", fn := fun _ => fun
  | [d1, d2] => { results := [.lit (.bool false)], args := [d1, d2] }
  | _ => none }
def MakerShapesWrongFalsely : Prop := makerShapesRow.holds Try.pinned (OpenSpec.ofChange makerShapesWrong)

/-- 'tracerylaw5.MakerStacks': WHATEVER THE INPUT: true; the input reads as it did. -/
def makerStacksSpec : ChangeSpec := { name := "makerStacks", fn := fun _ => fun
  | [d1, d2] => { results := [.lit (.bool true)], args := [d1, d2] }
  | _ => none }
def makerStacksRow : OpenClaim := { program := "ytncnghbkdbhpbaa", sum := "5eb3155dbf0d2d5cd591f56f1af463ef33e5c90b59ccc663b9ed1d157e1c0f27", func := "tracery/tracerylaw5.MakerStacks", spec := "makerStacks", apart := false }
def MakerStacksSaid : Prop := makerStacksRow.holds Try.pinned (OpenSpec.ofChange makerStacksSpec)

/-- ITS FALSE NEIGHBOUR: 'it returns false'. Refute it at one input. -/
def makerStacksWrong : ChangeSpec := { name := "makerStacks", fn := fun _ => fun
  | [d1, d2] => { results := [.lit (.bool false)], args := [d1, d2] }
  | _ => none }
def MakerStacksWrongFalsely : Prop := makerStacksRow.holds Try.pinned (OpenSpec.ofChange makerStacksWrong)

/- THE SECOND FORM. 'bulk': how many values and letters a reading holds, each counted each time it is reached (what is shared counts as often as it is met; a slice's spare places count too). A statement '..UptoSaid' is the law's where the arguments, and the package variables that the reading takes, are together of bulk at most 1048576: NARROWER than '..Said'. Prove '..Said' where nothing that the law and all that it calls make is longer than what came in: it says more and counts as full. Else prove '..UptoSaid'. A law counts once. -/
mutual
def uptoBulk {H : Type} : DataW H → Nat
  | .lit (.string bytes) => bytes.length + 1
  | .lit _ => 1
  | .nil => 1
  | .ptr d => uptoBulk d + 1
  | .slice elems spare => uptoBulkAll elems + uptoBulkAll spare + 1
  | .agg parts => uptoBulkAll parts + 1
  | .iface _ d => uptoBulk d + 1
  | .map entries => uptoBulkEntries entries + 1
  | .held _ => 1
def uptoBulkAll {H : Type} : List (DataW H) → Nat
  | [] => 0
  | d :: r => uptoBulk d + uptoBulkAll r
def uptoBulkEntries {H : Type} : List (Lit × DataW H) → Nat
  | [] => 0
  | x :: r => uptoBulkEntry x + uptoBulkEntries r
def uptoBulkEntry {H : Type} : Lit × DataW H → Nat
  | (.string bytes, d) => bytes.length + uptoBulk d + 1
  | (_, d) => uptoBulk d + 1
 end
def uptoSmall : (H : Type) → List (DataW H) → Bool := fun _ ds => decide (uptoBulkAll ds ≤ 1048576)
def OpenSpec.upto (s : _root_.Go.ChangeSpec) : _root_.Go.OpenSpec := { _root_.Go.OpenSpec.ofChange s with cond := some uptoSmall }

/-- 'tracerylaw5.MakerAll', WHERE WHAT IT READS IS OF BULK AT MOST 1048576: true; the input reads as it did. -/
def makerAllUptoRow : OpenClaim := { program := "ytncnghbkdbhpbaa", sum := "5eb3155dbf0d2d5cd591f56f1af463ef33e5c90b59ccc663b9ed1d157e1c0f27", func := "tracery/tracerylaw5.MakerAll", spec := "makerAll", apart := false, narrowed := true }
def MakerAllUptoSaid : Prop := makerAllUptoRow.holds Try.pinned (OpenSpec.upto makerAllSpec)

/-- 'tracerylaw5.MakerShapes', WHERE WHAT IT READS IS OF BULK AT MOST 1048576: true; the input reads as it did. -/
def makerShapesUptoRow : OpenClaim := { program := "ytncnghbkdbhpbaa", sum := "5eb3155dbf0d2d5cd591f56f1af463ef33e5c90b59ccc663b9ed1d157e1c0f27", func := "tracery/tracerylaw5.MakerShapes", spec := "makerShapes", apart := false, narrowed := true }
def MakerShapesUptoSaid : Prop := makerShapesUptoRow.holds Try.pinned (OpenSpec.upto makerShapesSpec)

/-- 'tracerylaw5.MakerStacks', WHERE WHAT IT READS IS OF BULK AT MOST 1048576: true; the input reads as it did. -/
def makerStacksUptoRow : OpenClaim := { program := "ytncnghbkdbhpbaa", sum := "5eb3155dbf0d2d5cd591f56f1af463ef33e5c90b59ccc663b9ed1d157e1c0f27", func := "tracery/tracerylaw5.MakerStacks", spec := "makerStacks", apart := false, narrowed := true }
def MakerStacksUptoSaid : Prop := makerStacksUptoRow.holds Try.pinned (OpenSpec.upto makerStacksSpec)

end Rows
end Go.Proofs.Ytncnghbkdbhpbaa
