/-
  No cell of these rows narrows 'for every input' (looked for: loops, veiled, ifaces, maps, wideKeys, modest, calm, conditions, laid).
  DERIVED. THE GIVEN ROWS OF THIS SEAT. 3 by the template 'for every input the law returns true; each argument reads behind the call as it read before'; 0 by the template 'total and deterministic' (their statements: YtaebbfilgfkckaaTotals.lean).
  GIVEN WITH THE SEED: the statements are not yours to turn. If you find one false, say at which input.
  Laid BY PROGRAM, IN A SANDBOX (cutbox-rows.mjs): the forced cells as the released guide's own fill.sh prints them over the translation 746ecb772cb0fa96… (all of the seat's roots in one cut). By AI agents, Wed Nov 11 2026. No macro, syntax, notation, axiom, sorry.
-/
import Derived.Test.YtaebbfilgfkckaaChecked
import GoSem.Claim
import GoSem.ClaimJoined
import GoSem.ClaimMapViews
import Derived.JoinedTies
import Derived.KernelRfl
namespace Go.Proofs.Ytaebbfilgfkckaa
/- THE CELL 'sum', in the pinned program and in every row, IS THE sha256 OF THE DUMP (.gsa) THAT YtaebbfilgfkckaaProg.lean LOADS. Nothing in Lean hashes anything: it is a label: what it is worth is what the hold of that sum in a sandbox is worth. -/
noncomputable def Try.pinned : Pinned := { name := "ytaebbfilgfkckaa", sum := "746ecb772cb0fa962dc607b5f4223e49f286b42b185e0a69ef4588314609e3b5", checked := Try.checked }
namespace Rows
def none {H : Type} : Left H := { results := [], args := [] }

/-- 'tracerylaw12.KuraAll': WHATEVER THE INPUT: true; the input reads as it did. -/
def kuraAllSpec : ChangeSpec := { name := "kuraAll", fn := fun _ => fun
  | [d1, d2] => { results := [.lit (.bool true)], args := [d1, d2] }
  | _ => none }
def kuraAllRow : OpenClaim := { program := "ytaebbfilgfkckaa", sum := "746ecb772cb0fa962dc607b5f4223e49f286b42b185e0a69ef4588314609e3b5", func := "tracery/tracerylaw12.KuraAll", spec := "kuraAll", plainKeys := false, apart := false }
def KuraAllSaid : Prop := kuraAllRow.holds Try.pinned (OpenSpec.ofChange kuraAllSpec)

/-- ITS FALSE NEIGHBOUR: 'it returns false'. Refute it at one input. -/
def kuraAllWrong : ChangeSpec := { name := "kuraAll", fn := fun _ => fun
  | [d1, d2] => { results := [.lit (.bool false)], args := [d1, d2] }
  | _ => none }
def KuraAllWrongFalsely : Prop := kuraAllRow.holds Try.pinned (OpenSpec.ofChange kuraAllWrong)

/-- 'tracerylaw12.KuraGrown': WHATEVER THE INPUT: true; the input reads as it did. -/
def kuraGrownSpec : ChangeSpec := { name := "kuraGrown", fn := fun _ => fun
  | [d1, d2, d3, d4] => { results := [.lit (.bool true)], args := [d1, d2, d3, d4] }
  | _ => none }
def kuraGrownRow : OpenClaim := { program := "ytaebbfilgfkckaa", sum := "746ecb772cb0fa962dc607b5f4223e49f286b42b185e0a69ef4588314609e3b5", func := "tracery/tracerylaw12.KuraGrown", spec := "kuraGrown", plainKeys := false, apart := false }
def KuraGrownSaid : Prop := kuraGrownRow.holds Try.pinned (OpenSpec.ofChange kuraGrownSpec)

/-- ITS FALSE NEIGHBOUR: 'it returns false'. Refute it at one input. -/
def kuraGrownWrong : ChangeSpec := { name := "kuraGrown", fn := fun _ => fun
  | [d1, d2, d3, d4] => { results := [.lit (.bool false)], args := [d1, d2, d3, d4] }
  | _ => none }
def KuraGrownWrongFalsely : Prop := kuraGrownRow.holds Try.pinned (OpenSpec.ofChange kuraGrownWrong)

/-- 'tracerylaw12.KuraLess': WHATEVER THE INPUT: true; the input reads as it did. -/
def kuraLessSpec : ChangeSpec := { name := "kuraLess", fn := fun _ => fun
  | [d1, d2, d3, d4] => { results := [.lit (.bool true)], args := [d1, d2, d3, d4] }
  | _ => none }
def kuraLessRow : OpenClaim := { program := "ytaebbfilgfkckaa", sum := "746ecb772cb0fa962dc607b5f4223e49f286b42b185e0a69ef4588314609e3b5", func := "tracery/tracerylaw12.KuraLess", spec := "kuraLess", plainKeys := false, apart := false }
def KuraLessSaid : Prop := kuraLessRow.holds Try.pinned (OpenSpec.ofChange kuraLessSpec)

/-- ITS FALSE NEIGHBOUR: 'it returns false'. Refute it at one input. -/
def kuraLessWrong : ChangeSpec := { name := "kuraLess", fn := fun _ => fun
  | [d1, d2, d3, d4] => { results := [.lit (.bool false)], args := [d1, d2, d3, d4] }
  | _ => none }
def KuraLessWrongFalsely : Prop := kuraLessRow.holds Try.pinned (OpenSpec.ofChange kuraLessWrong)

/- THE SECOND FORM. 'bulk': how many values and letters a reading holds, each counted each time it is reached (what is shared counts as often as it is met; a slice's spare places count too). A statement '..UptoSaid' is the law's where the arguments, and the package variables that the reading takes, are together of bulk at most 1048576: NARROWER than '..Said'. Prove '..Said' where nothing that the law and all that it calls make is longer than what came in: it says more and counts as full. Else prove '..UptoSaid'. A law counts once. -/
mutual
def uptoBulk {H : Type} : DataW H → Nat
  | .lit (.string bytes) => bytes.length + 1
  | .lit _ => 1
  | .nil => 1
  | .ptr d => uptoBulk d + 1
  | .slice elems spare => uptoBulkAll elems + uptoBulkAll spare + 1
  | .agg parts => uptoBulkAll parts + 1
  | .iface _ d => uptoBulk d + 1
  | .map entries => uptoBulkEntries entries + 1
  | .held _ => 1
def uptoBulkAll {H : Type} : List (DataW H) → Nat
  | [] => 0
  | d :: r => uptoBulk d + uptoBulkAll r
def uptoBulkEntries {H : Type} : List (Lit × DataW H) → Nat
  | [] => 0
  | x :: r => uptoBulkEntry x + uptoBulkEntries r
def uptoBulkEntry {H : Type} : Lit × DataW H → Nat
  | (.string bytes, d) => bytes.length + uptoBulk d + 1
  | (_, d) => uptoBulk d + 1
 end
def uptoSmall : (H : Type) → List (DataW H) → Bool := fun _ ds => decide (uptoBulkAll ds ≤ 1048576)
def OpenSpec.upto (s : _root_.Go.ChangeSpec) : _root_.Go.OpenSpec := { _root_.Go.OpenSpec.ofChange s with cond := some uptoSmall }

/-- 'tracerylaw12.KuraAll', WHERE WHAT IT READS IS OF BULK AT MOST 1048576: true; the input reads as it did. -/
def kuraAllUptoRow : OpenClaim := { program := "ytaebbfilgfkckaa", sum := "746ecb772cb0fa962dc607b5f4223e49f286b42b185e0a69ef4588314609e3b5", func := "tracery/tracerylaw12.KuraAll", spec := "kuraAll", plainKeys := false, apart := false, narrowed := true }
def KuraAllUptoSaid : Prop := kuraAllUptoRow.holds Try.pinned (OpenSpec.upto kuraAllSpec)

/-- 'tracerylaw12.KuraGrown', WHERE WHAT IT READS IS OF BULK AT MOST 1048576: true; the input reads as it did. -/
def kuraGrownUptoRow : OpenClaim := { program := "ytaebbfilgfkckaa", sum := "746ecb772cb0fa962dc607b5f4223e49f286b42b185e0a69ef4588314609e3b5", func := "tracery/tracerylaw12.KuraGrown", spec := "kuraGrown", plainKeys := false, apart := false, narrowed := true }
def KuraGrownUptoSaid : Prop := kuraGrownUptoRow.holds Try.pinned (OpenSpec.upto kuraGrownSpec)

/-- 'tracerylaw12.KuraLess', WHERE WHAT IT READS IS OF BULK AT MOST 1048576: true; the input reads as it did. -/
def kuraLessUptoRow : OpenClaim := { program := "ytaebbfilgfkckaa", sum := "746ecb772cb0fa962dc607b5f4223e49f286b42b185e0a69ef4588314609e3b5", func := "tracery/tracerylaw12.KuraLess", spec := "kuraLess", plainKeys := false, apart := false, narrowed := true }
def KuraLessUptoSaid : Prop := kuraLessUptoRow.holds Try.pinned (OpenSpec.upto kuraLessSpec)

end Rows
end Go.Proofs.Ytaebbfilgfkckaa
