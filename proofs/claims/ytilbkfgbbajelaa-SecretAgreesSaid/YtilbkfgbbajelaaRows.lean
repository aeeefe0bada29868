/-
  No cell of these rows narrows 'for every input' (looked for: loops, veiled, ifaces, maps, wideKeys, modest, calm, conditions, laid).
  DERIVED. THE GIVEN ROWS OF THIS SEAT. 4 by the template 'for every input the law returns true; each argument reads behind the call as it read before'; 0 by the template 'total and deterministic' (their statements: YtilbkfgbbajelaaTotals.lean).
  GIVEN WITH THE SEED: the statements are not yours to turn. If you find one false, say at which input.
  Laid BY PROGRAM, IN A SANDBOX (cutbox-rows.mjs): the forced cells as the released guide's own fill.sh prints them over the translation 6a9698d2fc9b444d… (all of the seat's roots in one cut). By AI agents, Wed Nov 11 2026. No macro, syntax, notation, axiom, sorry.
-/
import Derived.Test.YtilbkfgbbajelaaChecked
import GoSem.Claim
import GoSem.ClaimJoined
import GoSem.ClaimMapViews
import Derived.JoinedTies
import Derived.KernelRfl
namespace Go.Proofs.Ytilbkfgbbajelaa
/- THE CELL 'sum', in the pinned program and in every row, IS THE sha256 OF THE DUMP (.gsa) THAT YtilbkfgbbajelaaProg.lean LOADS. Nothing in Lean hashes anything: it is a label: what it is worth is what the hold of that sum in a sandbox is worth. -/
noncomputable def Try.pinned : Pinned := { name := "ytilbkfgbbajelaa", sum := "6a9698d2fc9b444ddb35266d4682c884c57d87e904e67afec2e53ba0de0586fa", checked := Try.checked }
namespace Rows
def none {H : Type} : Left H := { results := [], args := [] }

/-- 'lodgelaw06.SecretTells': WHATEVER THE INPUT: true; the input reads as it did. -/
def secretTellsSpec : ChangeSpec := { name := "secretTells", fn := fun _ => fun
  | [d1, d2, d3] => { results := [.lit (.bool true)], args := [d1, d2, d3] }
  | _ => none }
def secretTellsRow : OpenClaim := { program := "ytilbkfgbbajelaa", sum := "6a9698d2fc9b444ddb35266d4682c884c57d87e904e67afec2e53ba0de0586fa", func := "lodge/lodgelaw06.SecretTells", spec := "secretTells", inPlace := ["math/bits.Add64", "math/bits.Sub64"], unfollowed := true, recurses := true, named := ["math/bits.divideError", "math/bits.overflowError"], apart := false }
def SecretTellsSaid : Prop := secretTellsRow.holds Try.pinned (OpenSpec.ofChange secretTellsSpec)

/-- ITS FALSE NEIGHBOUR: 'it returns false'. Refute it at one input. -/
def secretTellsWrong : ChangeSpec := { name := "secretTells", fn := fun _ => fun
  | [d1, d2, d3] => { results := [.lit (.bool false)], args := [d1, d2, d3] }
  | _ => none }
def SecretTellsWrongFalsely : Prop := secretTellsRow.holds Try.pinned (OpenSpec.ofChange secretTellsWrong)

/-- 'lodgelaw06.SecretAgrees': WHATEVER THE INPUT: true; the input reads as it did. -/
def secretAgreesSpec : ChangeSpec := { name := "secretAgrees", fn := fun _ => fun
  | [d1, d2, d3] => { results := [.lit (.bool true)], args := [d1, d2, d3] }
  | _ => none }
def secretAgreesRow : OpenClaim := { program := "ytilbkfgbbajelaa", sum := "6a9698d2fc9b444ddb35266d4682c884c57d87e904e67afec2e53ba0de0586fa", func := "lodge/lodgelaw06.SecretAgrees", spec := "secretAgrees", inPlace := ["math/bits.Add64", "math/bits.Sub64"], unfollowed := true, recurses := true, named := ["math/bits.divideError", "math/bits.overflowError"], apart := false }
def SecretAgreesSaid : Prop := secretAgreesRow.holds Try.pinned (OpenSpec.ofChange secretAgreesSpec)

/-- ITS FALSE NEIGHBOUR: 'it returns false'. Refute it at one input. -/
def secretAgreesWrong : ChangeSpec := { name := "secretAgrees", fn := fun _ => fun
  | [d1, d2, d3] => { results := [.lit (.bool false)], args := [d1, d2, d3] }
  | _ => none }
def SecretAgreesWrongFalsely : Prop := secretAgreesRow.holds Try.pinned (OpenSpec.ofChange secretAgreesWrong)

/-- 'lodgelaw06.SecretReduces': WHATEVER THE INPUT: true; the input reads as it did. -/
def secretReducesSpec : ChangeSpec := { name := "secretReduces", fn := fun _ => fun
  | [d1, d2] => { results := [.lit (.bool true)], args := [d1, d2] }
  | _ => none }
def secretReducesRow : OpenClaim := { program := "ytilbkfgbbajelaa", sum := "6a9698d2fc9b444ddb35266d4682c884c57d87e904e67afec2e53ba0de0586fa", func := "lodge/lodgelaw06.SecretReduces", spec := "secretReduces", inPlace := ["math/bits.Add64", "math/bits.Sub64"], unfollowed := true, recurses := true, named := ["math/bits.divideError", "math/bits.overflowError"], apart := false }
def SecretReducesSaid : Prop := secretReducesRow.holds Try.pinned (OpenSpec.ofChange secretReducesSpec)

/-- ITS FALSE NEIGHBOUR: 'it returns false'. Refute it at one input. -/
def secretReducesWrong : ChangeSpec := { name := "secretReduces", fn := fun _ => fun
  | [d1, d2] => { results := [.lit (.bool false)], args := [d1, d2] }
  | _ => none }
def SecretReducesWrongFalsely : Prop := secretReducesRow.holds Try.pinned (OpenSpec.ofChange secretReducesWrong)

/-- 'lodgelaw06.SecretThree': WHATEVER THE INPUT: true; the input reads as it did. -/
def secretThreeSpec : ChangeSpec := { name := "secretThree", fn := fun _ => fun
  | [d1, d2, d3] => { results := [.lit (.bool true)], args := [d1, d2, d3] }
  | _ => none }
def secretThreeRow : OpenClaim := { program := "ytilbkfgbbajelaa", sum := "6a9698d2fc9b444ddb35266d4682c884c57d87e904e67afec2e53ba0de0586fa", func := "lodge/lodgelaw06.SecretThree", spec := "secretThree", inPlace := ["math/bits.Add64", "math/bits.Sub64"], unfollowed := true, recurses := true, named := ["math/bits.divideError", "math/bits.overflowError"], apart := false }
def SecretThreeSaid : Prop := secretThreeRow.holds Try.pinned (OpenSpec.ofChange secretThreeSpec)

/-- ITS FALSE NEIGHBOUR: 'it returns false'. Refute it at one input. -/
def secretThreeWrong : ChangeSpec := { name := "secretThree", fn := fun _ => fun
  | [d1, d2, d3] => { results := [.lit (.bool false)], args := [d1, d2, d3] }
  | _ => none }
def SecretThreeWrongFalsely : Prop := secretThreeRow.holds Try.pinned (OpenSpec.ofChange secretThreeWrong)

/- THE SECOND FORM. 'bulk': how many values and letters a reading holds, each counted each time it is reached (what is shared counts as often as it is met; a slice's spare places count too). A statement '..UptoSaid' is the law's where the arguments, and the package variables that the reading takes, are together of bulk at most 1048576: NARROWER than '..Said'. Prove '..Said' where nothing that the law and all that it calls make is longer than what came in: it says more and counts as full. Else prove '..UptoSaid'. A law counts once. -/
mutual
def uptoBulk {H : Type} : DataW H → Nat
  | .lit (.string bytes) => bytes.length + 1
  | .lit _ => 1
  | .nil => 1
  | .ptr d => uptoBulk d + 1
  | .slice elems spare => uptoBulkAll elems + uptoBulkAll spare + 1
  | .agg parts => uptoBulkAll parts + 1
  | .iface _ d => uptoBulk d + 1
  | .map entries => uptoBulkEntries entries + 1
  | .held _ => 1
def uptoBulkAll {H : Type} : List (DataW H) → Nat
  | [] => 0
  | d :: r => uptoBulk d + uptoBulkAll r
def uptoBulkEntries {H : Type} : List (Lit × DataW H) → Nat
  | [] => 0
  | x :: r => uptoBulkEntry x + uptoBulkEntries r
def uptoBulkEntry {H : Type} : Lit × DataW H → Nat
  | (.string bytes, d) => bytes.length + uptoBulk d + 1
  | (_, d) => uptoBulk d + 1
 end
def uptoSmall : (H : Type) → List (DataW H) → Bool := fun _ ds => decide (uptoBulkAll ds ≤ 1048576)
def OpenSpec.upto (s : _root_.Go.ChangeSpec) : _root_.Go.OpenSpec := { _root_.Go.OpenSpec.ofChange s with cond := some uptoSmall }

/-- 'lodgelaw06.SecretTells', WHERE WHAT IT READS IS OF BULK AT MOST 1048576: true; the input reads as it did. -/
def secretTellsUptoRow : OpenClaim := { program := "ytilbkfgbbajelaa", sum := "6a9698d2fc9b444ddb35266d4682c884c57d87e904e67afec2e53ba0de0586fa", func := "lodge/lodgelaw06.SecretTells", spec := "secretTells", inPlace := ["math/bits.Add64", "math/bits.Sub64"], unfollowed := true, recurses := true, named := ["math/bits.divideError", "math/bits.overflowError"], apart := false, narrowed := true }
def SecretTellsUptoSaid : Prop := secretTellsUptoRow.holds Try.pinned (OpenSpec.upto secretTellsSpec)

/-- 'lodgelaw06.SecretAgrees', WHERE WHAT IT READS IS OF BULK AT MOST 1048576: true; the input reads as it did. -/
def secretAgreesUptoRow : OpenClaim := { program := "ytilbkfgbbajelaa", sum := "6a9698d2fc9b444ddb35266d4682c884c57d87e904e67afec2e53ba0de0586fa", func := "lodge/lodgelaw06.SecretAgrees", spec := "secretAgrees", inPlace := ["math/bits.Add64", "math/bits.Sub64"], unfollowed := true, recurses := true, named := ["math/bits.divideError", "math/bits.overflowError"], apart := false, narrowed := true }
def SecretAgreesUptoSaid : Prop := secretAgreesUptoRow.holds Try.pinned (OpenSpec.upto secretAgreesSpec)

/-- 'lodgelaw06.SecretReduces', WHERE WHAT IT READS IS OF BULK AT MOST 1048576: true; the input reads as it did. -/
def secretReducesUptoRow : OpenClaim := { program := "ytilbkfgbbajelaa", sum := "6a9698d2fc9b444ddb35266d4682c884c57d87e904e67afec2e53ba0de0586fa", func := "lodge/lodgelaw06.SecretReduces", spec := "secretReduces", inPlace := ["math/bits.Add64", "math/bits.Sub64"], unfollowed := true, recurses := true, named := ["math/bits.divideError", "math/bits.overflowError"], apart := false, narrowed := true }
def SecretReducesUptoSaid : Prop := secretReducesUptoRow.holds Try.pinned (OpenSpec.upto secretReducesSpec)

/-- 'lodgelaw06.SecretThree', WHERE WHAT IT READS IS OF BULK AT MOST 1048576: true; the input reads as it did. -/
def secretThreeUptoRow : OpenClaim := { program := "ytilbkfgbbajelaa", sum := "6a9698d2fc9b444ddb35266d4682c884c57d87e904e67afec2e53ba0de0586fa", func := "lodge/lodgelaw06.SecretThree", spec := "secretThree", inPlace := ["math/bits.Add64", "math/bits.Sub64"], unfollowed := true, recurses := true, named := ["math/bits.divideError", "math/bits.overflowError"], apart := false, narrowed := true }
def SecretThreeUptoSaid : Prop := secretThreeUptoRow.holds Try.pinned (OpenSpec.upto secretThreeSpec)

end Rows
end Go.Proofs.Ytilbkfgbbajelaa
