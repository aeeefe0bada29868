/-
  No cell of these rows narrows 'for every input' (looked for: loops, veiled, ifaces, maps, wideKeys, modest, calm, conditions, laid).
  DERIVED. THE GIVEN ROWS OF THIS SEAT. 3 by the template 'for every input the law returns true; each argument reads behind the call as it read before'; 0 by the template 'total and deterministic' (their statements: YtlmkgkfildgkgaaTotals.lean).
  GIVEN WITH THE SEED: the statements are not yours to turn. If you find one false, say at which input.
  Laid BY PROGRAM, IN A SANDBOX (cutbox-rows.mjs): the forced cells as the released guide's own fill.sh prints them over the translation 37805b53cfdc6218… (all of the seat's roots in one cut). By AI agents, Wed Nov 11 2026. No macro, syntax, notation, axiom, sorry.
-/
import Derived.Test.YtlmkgkfildgkgaaChecked
import GoSem.Claim
import GoSem.ClaimJoined
import GoSem.ClaimMapViews
import Derived.JoinedTies
import Derived.KernelRfl
namespace Go.Proofs.Ytlmkgkfildgkgaa
/- THE CELL 'sum', in the pinned program and in every row, IS THE sha256 OF THE DUMP (.gsa) THAT YtlmkgkfildgkgaaProg.lean LOADS. Nothing in Lean hashes anything: it is a label: what it is worth is what the hold of that sum in a sandbox is worth. -/
noncomputable def Try.pinned : Pinned := { name := "ytlmkgkfildgkgaa", sum := "37805b53cfdc62180c48dbf4ee88df83549f1f915b70db4c97a5ddb6da98989c", checked := Try.checked }
namespace Rows
def none {H : Type} : Left H := { results := [], args := [] }

/-- 'lodgelaw13.SponsorTells': WHATEVER THE INPUT: true; the input reads as it did. -/
def sponsorTellsSpec : ChangeSpec := { name := "sponsorTells", fn := fun _ => fun
  | [d1, d2, d3] => { results := [.lit (.bool true)], args := [d1, d2, d3] }
  | _ => none }
def sponsorTellsRow : OpenClaim := { program := "ytlmkgkfildgkgaa", sum := "37805b53cfdc62180c48dbf4ee88df83549f1f915b70db4c97a5ddb6da98989c", func := "lodge/lodgelaw13.SponsorTells", spec := "sponsorTells", recurses := true, apart := false }
def SponsorTellsSaid : Prop := sponsorTellsRow.holds Try.pinned (OpenSpec.ofChange sponsorTellsSpec)

/-- ITS FALSE NEIGHBOUR: 'it returns false'. Refute it at one input. -/
def sponsorTellsWrong : ChangeSpec := { name := "sponsorTells", fn := fun _ => fun
  | [d1, d2, d3] => { results := [.lit (.bool false)], args := [d1, d2, d3] }
  | _ => none }
def SponsorTellsWrongFalsely : Prop := sponsorTellsRow.holds Try.pinned (OpenSpec.ofChange sponsorTellsWrong)

/-- 'lodgelaw13.SponsorOne': WHATEVER THE INPUT: true; the input reads as it did. -/
def sponsorOneSpec : ChangeSpec := { name := "sponsorOne", fn := fun _ => fun
  | [d] => { results := [.lit (.bool true)], args := [d] }
  | _ => none }
def sponsorOneRow : OpenClaim := { program := "ytlmkgkfildgkgaa", sum := "37805b53cfdc62180c48dbf4ee88df83549f1f915b70db4c97a5ddb6da98989c", func := "lodge/lodgelaw13.SponsorOne", spec := "sponsorOne", recurses := true, apart := false }
def SponsorOneSaid : Prop := sponsorOneRow.holds Try.pinned (OpenSpec.ofChange sponsorOneSpec)

/-- ITS FALSE NEIGHBOUR: 'it returns false'. Refute it at one input. -/
def sponsorOneWrong : ChangeSpec := { name := "sponsorOne", fn := fun _ => fun
  | [d] => { results := [.lit (.bool false)], args := [d] }
  | _ => none }
def SponsorOneWrongFalsely : Prop := sponsorOneRow.holds Try.pinned (OpenSpec.ofChange sponsorOneWrong)

/-- 'lodgelaw13.SponsorRight': WHATEVER THE INPUT: true; the input reads as it did. -/
def sponsorRightSpec : ChangeSpec := { name := "sponsorRight", fn := fun _ => fun
  | [d1, d2] => { results := [.lit (.bool true)], args := [d1, d2] }
  | _ => none }
def sponsorRightRow : OpenClaim := { program := "ytlmkgkfildgkgaa", sum := "37805b53cfdc62180c48dbf4ee88df83549f1f915b70db4c97a5ddb6da98989c", func := "lodge/lodgelaw13.SponsorRight", spec := "sponsorRight", recurses := true, apart := false }
def SponsorRightSaid : Prop := sponsorRightRow.holds Try.pinned (OpenSpec.ofChange sponsorRightSpec)

/-- ITS FALSE NEIGHBOUR: 'it returns false'. Refute it at one input. -/
def sponsorRightWrong : ChangeSpec := { name := "sponsorRight", fn := fun _ => fun
  | [d1, d2] => { results := [.lit (.bool false)], args := [d1, d2] }
  | _ => none }
def SponsorRightWrongFalsely : Prop := sponsorRightRow.holds Try.pinned (OpenSpec.ofChange sponsorRightWrong)

/- THE SECOND FORM. 'bulk': how many values and letters a reading holds, each counted each time it is reached (what is shared counts as often as it is met; a slice's spare places count too). A statement '..UptoSaid' is the law's where the arguments, and the package variables that the reading takes, are together of bulk at most 1048576: NARROWER than '..Said'. Prove '..Said' where nothing that the law and all that it calls make is longer than what came in: it says more and counts as full. Else prove '..UptoSaid'. A law counts once. -/
mutual
def uptoBulk {H : Type} : DataW H → Nat
  | .lit (.string bytes) => bytes.length + 1
  | .lit _ => 1
  | .nil => 1
  | .ptr d => uptoBulk d + 1
  | .slice elems spare => uptoBulkAll elems + uptoBulkAll spare + 1
  | .agg parts => uptoBulkAll parts + 1
  | .iface _ d => uptoBulk d + 1
  | .map entries => uptoBulkEntries entries + 1
  | .held _ => 1
def uptoBulkAll {H : Type} : List (DataW H) → Nat
  | [] => 0
  | d :: r => uptoBulk d + uptoBulkAll r
def uptoBulkEntries {H : Type} : List (Lit × DataW H) → Nat
  | [] => 0
  | x :: r => uptoBulkEntry x + uptoBulkEntries r
def uptoBulkEntry {H : Type} : Lit × DataW H → Nat
  | (.string bytes, d) => bytes.length + uptoBulk d + 1
  | (_, d) => uptoBulk d + 1
 end
def uptoSmall : (H : Type) → List (DataW H) → Bool := fun _ ds => decide (uptoBulkAll ds ≤ 1048576)
def OpenSpec.upto (s : _root_.Go.ChangeSpec) : _root_.Go.OpenSpec := { _root_.Go.OpenSpec.ofChange s with cond := some uptoSmall }

/-- 'lodgelaw13.SponsorTells', WHERE WHAT IT READS IS OF BULK AT MOST 1048576: true; the input reads as it did. -/
def sponsorTellsUptoRow : OpenClaim := { program := "ytlmkgkfildgkgaa", sum := "37805b53cfdc62180c48dbf4ee88df83549f1f915b70db4c97a5ddb6da98989c", func := "lodge/lodgelaw13.SponsorTells", spec := "sponsorTells", recurses := true, apart := false, narrowed := true }
def SponsorTellsUptoSaid : Prop := sponsorTellsUptoRow.holds Try.pinned (OpenSpec.upto sponsorTellsSpec)

/-- 'lodgelaw13.SponsorOne', WHERE WHAT IT READS IS OF BULK AT MOST 1048576: true; the input reads as it did. -/
def sponsorOneUptoRow : OpenClaim := { program := "ytlmkgkfildgkgaa", sum := "37805b53cfdc62180c48dbf4ee88df83549f1f915b70db4c97a5ddb6da98989c", func := "lodge/lodgelaw13.SponsorOne", spec := "sponsorOne", recurses := true, apart := false, narrowed := true }
def SponsorOneUptoSaid : Prop := sponsorOneUptoRow.holds Try.pinned (OpenSpec.upto sponsorOneSpec)

/-- 'lodgelaw13.SponsorRight', WHERE WHAT IT READS IS OF BULK AT MOST 1048576: true; the input reads as it did. -/
def sponsorRightUptoRow : OpenClaim := { program := "ytlmkgkfildgkgaa", sum := "37805b53cfdc62180c48dbf4ee88df83549f1f915b70db4c97a5ddb6da98989c", func := "lodge/lodgelaw13.SponsorRight", spec := "sponsorRight", recurses := true, apart := false, narrowed := true }
def SponsorRightUptoSaid : Prop := sponsorRightUptoRow.holds Try.pinned (OpenSpec.upto sponsorRightSpec)

end Rows
end Go.Proofs.Ytlmkgkfildgkgaa
