/-
  No cell of these rows narrows 'for every input' (looked for: loops, veiled, ifaces, maps, wideKeys, modest, calm, conditions, laid).
  DERIVED. THE GIVEN ROWS OF THIS SEAT. 6 by the template 'for every input the law returns true; each argument reads behind the call as it read before'; 0 by the template 'total and deterministic' (their statements: YtghffodjffkijaaTotals.lean).
  GIVEN WITH THE SEED: the statements are not yours to turn. If you find one false, say at which input.
  Laid BY PROGRAM, IN A SANDBOX (cutbox-rows.mjs): the forced cells as the released guide's own fill.sh prints them over the translation 839a1a5b20584b40… (all of the seat's roots in one cut). By AI agents, Wed Nov 11 2026. No macro, syntax, notation, axiom, sorry.
-/
import Derived.Test.YtghffodjffkijaaChecked
import GoSem.Claim
import GoSem.ClaimJoined
import GoSem.ClaimMapViews
import Derived.JoinedTies
import Derived.KernelRfl
namespace Go.Proofs.Ytghffodjffkijaa
/- THE CELL 'sum', in the pinned program and in every row, IS THE sha256 OF THE DUMP (.gsa) THAT YtghffodjffkijaaProg.lean LOADS. Nothing in Lean hashes anything: it is a label: what it is worth is what the hold of that sum in a sandbox is worth. -/
noncomputable def Try.pinned : Pinned := { name := "ytghffodjffkijaa", sum := "839a1a5b20584b403b45cbe909458ee48183a3557d43b5cd16024b8450eadec1", checked := Try.checked }
namespace Rows
def none {H : Type} : Left H := { results := [], args := [] }

/-- 'tracerylaw6.WalkAll': WHATEVER THE INPUT: true; the input reads as it did. -/
def walkAllSpec : ChangeSpec := { name := "walkAll", fn := fun _ => fun
  | [d1, d2] => { results := [.lit (.bool true)], args := [d1, d2] }
  | _ => none }
def walkAllRow : OpenClaim := { program := "ytghffodjffkijaa", sum := "839a1a5b20584b403b45cbe909458ee48183a3557d43b5cd16024b8450eadec1", func := "tracery/tracerylaw6.WalkAll", spec := "walkAll", unfollowed := true, recurses := true, apart := false }
def WalkAllSaid : Prop := walkAllRow.holds Try.pinned (OpenSpec.ofChange walkAllSpec)

/-- ITS FALSE NEIGHBOUR: 'it returns false'. Refute it at one input. -/
def walkAllWrong : ChangeSpec := { name := "walkAll", fn := fun _ => fun
  | [d1, d2] => { results := [.lit (.bool false)], args := [d1, d2] }
  | _ => none }
def WalkAllWrongFalsely : Prop := walkAllRow.holds Try.pinned (OpenSpec.ofChange walkAllWrong)

/-- 'tracerylaw6.WalkFar': WHATEVER THE INPUT: true; the input reads as it did. -/
def walkFarSpec : ChangeSpec := { name := "walkFar", fn := fun _ => fun
  | [d1, d2] => { results := [.lit (.bool true)], args := [d1, d2] }
  | _ => none }
def walkFarRow : OpenClaim := { program := "ytghffodjffkijaa", sum := "839a1a5b20584b403b45cbe909458ee48183a3557d43b5cd16024b8450eadec1", func := "tracery/tracerylaw6.WalkFar", spec := "walkFar", unfollowed := true, recurses := true, apart := false }
def WalkFarSaid : Prop := walkFarRow.holds Try.pinned (OpenSpec.ofChange walkFarSpec)

/-- ITS FALSE NEIGHBOUR: 'it returns false'. Refute it at one input. -/
def walkFarWrong : ChangeSpec := { name := "walkFar", fn := fun _ => fun
  | [d1, d2] => { results := [.lit (.bool false)], args := [d1, d2] }
  | _ => none }
def WalkFarWrongFalsely : Prop := walkFarRow.holds Try.pinned (OpenSpec.ofChange walkFarWrong)

/-- 'tracerylaw6.WalkDeep': WHATEVER THE INPUT: true; the input reads as it did. -/
def walkDeepSpec : ChangeSpec := { name := "walkDeep", fn := fun _ => fun
  | [d1, d2] => { results := [.lit (.bool true)], args := [d1, d2] }
  | _ => none }
def walkDeepRow : OpenClaim := { program := "ytghffodjffkijaa", sum := "839a1a5b20584b403b45cbe909458ee48183a3557d43b5cd16024b8450eadec1", func := "tracery/tracerylaw6.WalkDeep", spec := "walkDeep", unfollowed := true, recurses := true, apart := false }
def WalkDeepSaid : Prop := walkDeepRow.holds Try.pinned (OpenSpec.ofChange walkDeepSpec)

/-- ITS FALSE NEIGHBOUR: 'it returns false'. Refute it at one input. -/
def walkDeepWrong : ChangeSpec := { name := "walkDeep", fn := fun _ => fun
  | [d1, d2] => { results := [.lit (.bool false)], args := [d1, d2] }
  | _ => none }
def WalkDeepWrongFalsely : Prop := walkDeepRow.holds Try.pinned (OpenSpec.ofChange walkDeepWrong)

/-- 'tracerylaw6.WalkSides': WHATEVER THE INPUT: true; the input reads as it did. -/
def walkSidesSpec : ChangeSpec := { name := "walkSides", fn := fun _ => fun
  | [d] => { results := [.lit (.bool true)], args := [d] }
  | _ => none }
def walkSidesRow : OpenClaim := { program := "ytghffodjffkijaa", sum := "839a1a5b20584b403b45cbe909458ee48183a3557d43b5cd16024b8450eadec1", func := "tracery/tracerylaw6.WalkSides", spec := "walkSides", unfollowed := true, recurses := true, apart := false }
def WalkSidesSaid : Prop := walkSidesRow.holds Try.pinned (OpenSpec.ofChange walkSidesSpec)

/-- ITS FALSE NEIGHBOUR: 'it returns false'. Refute it at one input. -/
def walkSidesWrong : ChangeSpec := { name := "walkSides", fn := fun _ => fun
  | [d] => { results := [.lit (.bool false)], args := [d] }
  | _ => none }
def WalkSidesWrongFalsely : Prop := walkSidesRow.holds Try.pinned (OpenSpec.ofChange walkSidesWrong)

/-- 'tracerylaw6.WalkRing': WHATEVER THE INPUT: true; the input reads as it did. -/
def walkRingSpec : ChangeSpec := { name := "walkRing", fn := fun _ => fun
  | [d] => { results := [.lit (.bool true)], args := [d] }
  | _ => none }
def walkRingRow : OpenClaim := { program := "ytghffodjffkijaa", sum := "839a1a5b20584b403b45cbe909458ee48183a3557d43b5cd16024b8450eadec1", func := "tracery/tracerylaw6.WalkRing", spec := "walkRing", unfollowed := true, recurses := true, apart := false }
def WalkRingSaid : Prop := walkRingRow.holds Try.pinned (OpenSpec.ofChange walkRingSpec)

/-- ITS FALSE NEIGHBOUR: 'it returns false'. Refute it at one input. -/
def walkRingWrong : ChangeSpec := { name := "walkRing", fn := fun _ => fun
  | [d] => { results := [.lit (.bool false)], args := [d] }
  | _ => none }
def WalkRingWrongFalsely : Prop := walkRingRow.holds Try.pinned (OpenSpec.ofChange walkRingWrong)

/-- 'tracerylaw6.WalkJoins': WHATEVER THE INPUT: true; the input reads as it did. -/
def walkJoinsSpec : ChangeSpec := { name := "walkJoins", fn := fun _ => fun
  | [d1, d2, d3] => { results := [.lit (.bool true)], args := [d1, d2, d3] }
  | _ => none }
def walkJoinsRow : OpenClaim := { program := "ytghffodjffkijaa", sum := "839a1a5b20584b403b45cbe909458ee48183a3557d43b5cd16024b8450eadec1", func := "tracery/tracerylaw6.WalkJoins", spec := "walkJoins", unfollowed := true, recurses := true, apart := false }
def WalkJoinsSaid : Prop := walkJoinsRow.holds Try.pinned (OpenSpec.ofChange walkJoinsSpec)

/-- ITS FALSE NEIGHBOUR: 'it returns false'. Refute it at one input. -/
def walkJoinsWrong : ChangeSpec := { name := "walkJoins", fn := fun _ => fun
  | [d1, d2, d3] => { results := [.lit (.bool false)], args := [d1, d2, d3] }
  | _ => none }
def WalkJoinsWrongFalsely : Prop := walkJoinsRow.holds Try.pinned (OpenSpec.ofChange walkJoinsWrong)

/- THE SECOND FORM. 'bulk': how many values and letters a reading holds, each counted each time it is reached (what is shared counts as often as it is met; a slice's spare places count too). A statement '..UptoSaid' is the law's where the arguments, and the package variables that the reading takes, are together of bulk at most 1048576: NARROWER than '..Said'. Prove '..Said' where nothing that the law and all that it calls make is longer than what came in: it says more and counts as full. Else prove '..UptoSaid'. A law counts once. -/
mutual
def uptoBulk {H : Type} : DataW H → Nat
  | .lit (.string bytes) => bytes.length + 1
  | .lit _ => 1
  | .nil => 1
  | .ptr d => uptoBulk d + 1
  | .slice elems spare => uptoBulkAll elems + uptoBulkAll spare + 1
  | .agg parts => uptoBulkAll parts + 1
  | .iface _ d => uptoBulk d + 1
  | .map entries => uptoBulkEntries entries + 1
  | .held _ => 1
def uptoBulkAll {H : Type} : List (DataW H) → Nat
  | [] => 0
  | d :: r => uptoBulk d + uptoBulkAll r
def uptoBulkEntries {H : Type} : List (Lit × DataW H) → Nat
  | [] => 0
  | x :: r => uptoBulkEntry x + uptoBulkEntries r
def uptoBulkEntry {H : Type} : Lit × DataW H → Nat
  | (.string bytes, d) => bytes.length + uptoBulk d + 1
  | (_, d) => uptoBulk d + 1
 end
def uptoSmall : (H : Type) → List (DataW H) → Bool := fun _ ds => decide (uptoBulkAll ds ≤ 1048576)
def OpenSpec.upto (s : _root_.Go.ChangeSpec) : _root_.Go.OpenSpec := { _root_.Go.OpenSpec.ofChange s with cond := some uptoSmall }

/-- 'tracerylaw6.WalkAll', WHERE WHAT IT READS IS OF BULK AT MOST 1048576: true; the input reads as it did. -/
def walkAllUptoRow : OpenClaim := { program := "ytghffodjffkijaa", sum := "839a1a5b20584b403b45cbe909458ee48183a3557d43b5cd16024b8450eadec1", func := "tracery/tracerylaw6.WalkAll", spec := "walkAll", unfollowed := true, recurses := true, apart := false, narrowed := true }
def WalkAllUptoSaid : Prop := walkAllUptoRow.holds Try.pinned (OpenSpec.upto walkAllSpec)

/-- 'tracerylaw6.WalkFar', WHERE WHAT IT READS IS OF BULK AT MOST 1048576: true; the input reads as it did. -/
def walkFarUptoRow : OpenClaim := { program := "ytghffodjffkijaa", sum := "839a1a5b20584b403b45cbe909458ee48183a3557d43b5cd16024b8450eadec1", func := "tracery/tracerylaw6.WalkFar", spec := "walkFar", unfollowed := true, recurses := true, apart := false, narrowed := true }
def WalkFarUptoSaid : Prop := walkFarUptoRow.holds Try.pinned (OpenSpec.upto walkFarSpec)

/-- 'tracerylaw6.WalkDeep', WHERE WHAT IT READS IS OF BULK AT MOST 1048576: true; the input reads as it did. -/
def walkDeepUptoRow : OpenClaim := { program := "ytghffodjffkijaa", sum := "839a1a5b20584b403b45cbe909458ee48183a3557d43b5cd16024b8450eadec1", func := "tracery/tracerylaw6.WalkDeep", spec := "walkDeep", unfollowed := true, recurses := true, apart := false, narrowed := true }
def WalkDeepUptoSaid : Prop := walkDeepUptoRow.holds Try.pinned (OpenSpec.upto walkDeepSpec)

/-- 'tracerylaw6.WalkSides', WHERE WHAT IT READS IS OF BULK AT MOST 1048576: true; the input reads as it did. -/
def walkSidesUptoRow : OpenClaim := { program := "ytghffodjffkijaa", sum := "839a1a5b20584b403b45cbe909458ee48183a3557d43b5cd16024b8450eadec1", func := "tracery/tracerylaw6.WalkSides", spec := "walkSides", unfollowed := true, recurses := true, apart := false, narrowed := true }
def WalkSidesUptoSaid : Prop := walkSidesUptoRow.holds Try.pinned (OpenSpec.upto walkSidesSpec)

/-- 'tracerylaw6.WalkRing', WHERE WHAT IT READS IS OF BULK AT MOST 1048576: true; the input reads as it did. -/
def walkRingUptoRow : OpenClaim := { program := "ytghffodjffkijaa", sum := "839a1a5b20584b403b45cbe909458ee48183a3557d43b5cd16024b8450eadec1", func := "tracery/tracerylaw6.WalkRing", spec := "walkRing", unfollowed := true, recurses := true, apart := false, narrowed := true }
def WalkRingUptoSaid : Prop := walkRingUptoRow.holds Try.pinned (OpenSpec.upto walkRingSpec)

/-- 'tracerylaw6.WalkJoins', WHERE WHAT IT READS IS OF BULK AT MOST 1048576: true; the input reads as it did. -/
def walkJoinsUptoRow : OpenClaim := { program := "ytghffodjffkijaa", sum := "839a1a5b20584b403b45cbe909458ee48183a3557d43b5cd16024b8450eadec1", func := "tracery/tracerylaw6.WalkJoins", spec := "walkJoins", unfollowed := true, recurses := true, apart := false, narrowed := true }
def WalkJoinsUptoSaid : Prop := walkJoinsUptoRow.holds Try.pinned (OpenSpec.upto walkJoinsSpec)

end Rows
end Go.Proofs.Ytghffodjffkijaa
