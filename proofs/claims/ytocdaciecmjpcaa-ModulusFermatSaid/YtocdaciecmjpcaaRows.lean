/-
  No cell of these rows narrows 'for every input' (looked for: loops, veiled, ifaces, maps, wideKeys, modest, calm, conditions, laid).
  DERIVED. THE GIVEN ROWS OF THIS SEAT. 5 by the template 'for every input the law returns true; each argument reads behind the call as it read before'; 0 by the template 'total and deterministic' (their statements: YtocdaciecmjpcaaTotals.lean).
  GIVEN WITH THE SEED: the statements are not yours to turn. If you find one false, say at which input.
  Laid BY PROGRAM, IN A SANDBOX (cutbox-rows.mjs): the forced cells as the released guide's own fill.sh prints them over the translation 27a173f2fa2102cd… (all of the seat's roots in one cut). By AI agents, Wed Nov 11 2026. No macro, syntax, notation, axiom, sorry.
-/
import Derived.Test.YtocdaciecmjpcaaChecked
import GoSem.Claim
import GoSem.ClaimJoined
import GoSem.ClaimMapViews
import Derived.JoinedTies
import Derived.KernelRfl
namespace Go.Proofs.Ytocdaciecmjpcaa
/- THE CELL 'sum', in the pinned program and in every row, IS THE sha256 OF THE DUMP (.gsa) THAT YtocdaciecmjpcaaProg.lean LOADS. Nothing in Lean hashes anything: it is a label: what it is worth is what the hold of that sum in a sandbox is worth. -/
noncomputable def Try.pinned : Pinned := { name := "ytocdaciecmjpcaa", sum := "27a173f2fa2102cd70b39992245c0d940ab49891568f5562758a3d81641559a2", checked := Try.checked }
namespace Rows
def none {H : Type} : Left H := { results := [], args := [] }

/-- 'lodgelaw04.ModulusTells': WHATEVER THE INPUT: true; the input reads as it did. -/
def modulusTellsSpec : ChangeSpec := { name := "modulusTells", fn := fun _ => fun
  | [d1, d2, d3] => { results := [.lit (.bool true)], args := [d1, d2, d3] }
  | _ => none }
def modulusTellsRow : OpenClaim := { program := "ytocdaciecmjpcaa", sum := "27a173f2fa2102cd70b39992245c0d940ab49891568f5562758a3d81641559a2", func := "lodge/lodgelaw04.ModulusTells", spec := "modulusTells", inPlace := ["math/bits.Add64", "math/bits.Sub64"], unfollowed := true, recurses := true, named := ["math/bits.divideError", "math/bits.overflowError"], apart := false }
def ModulusTellsSaid : Prop := modulusTellsRow.holds Try.pinned (OpenSpec.ofChange modulusTellsSpec)

/-- ITS FALSE NEIGHBOUR: 'it returns false'. Refute it at one input. -/
def modulusTellsWrong : ChangeSpec := { name := "modulusTells", fn := fun _ => fun
  | [d1, d2, d3] => { results := [.lit (.bool false)], args := [d1, d2, d3] }
  | _ => none }
def ModulusTellsWrongFalsely : Prop := modulusTellsRow.holds Try.pinned (OpenSpec.ofChange modulusTellsWrong)

/-- 'lodgelaw04.ModulusPowers': WHATEVER THE INPUT: true; the input reads as it did. -/
def modulusPowersSpec : ChangeSpec := { name := "modulusPowers", fn := fun _ => fun
  | [d1, d2, d3] => { results := [.lit (.bool true)], args := [d1, d2, d3] }
  | _ => none }
def modulusPowersRow : OpenClaim := { program := "ytocdaciecmjpcaa", sum := "27a173f2fa2102cd70b39992245c0d940ab49891568f5562758a3d81641559a2", func := "lodge/lodgelaw04.ModulusPowers", spec := "modulusPowers", inPlace := ["math/bits.Add64", "math/bits.Sub64"], unfollowed := true, recurses := true, named := ["math/bits.divideError", "math/bits.overflowError"], apart := false }
def ModulusPowersSaid : Prop := modulusPowersRow.holds Try.pinned (OpenSpec.ofChange modulusPowersSpec)

/-- ITS FALSE NEIGHBOUR: 'it returns false'. Refute it at one input. -/
def modulusPowersWrong : ChangeSpec := { name := "modulusPowers", fn := fun _ => fun
  | [d1, d2, d3] => { results := [.lit (.bool false)], args := [d1, d2, d3] }
  | _ => none }
def ModulusPowersWrongFalsely : Prop := modulusPowersRow.holds Try.pinned (OpenSpec.ofChange modulusPowersWrong)

/-- 'lodgelaw04.ModulusSteps': WHATEVER THE INPUT: true; the input reads as it did. -/
def modulusStepsSpec : ChangeSpec := { name := "modulusSteps", fn := fun _ => fun
  | [d1, d2, d3] => { results := [.lit (.bool true)], args := [d1, d2, d3] }
  | _ => none }
def modulusStepsRow : OpenClaim := { program := "ytocdaciecmjpcaa", sum := "27a173f2fa2102cd70b39992245c0d940ab49891568f5562758a3d81641559a2", func := "lodge/lodgelaw04.ModulusSteps", spec := "modulusSteps", inPlace := ["math/bits.Add64", "math/bits.Sub64"], unfollowed := true, recurses := true, named := ["math/bits.divideError", "math/bits.overflowError"], apart := false }
def ModulusStepsSaid : Prop := modulusStepsRow.holds Try.pinned (OpenSpec.ofChange modulusStepsSpec)

/-- ITS FALSE NEIGHBOUR: 'it returns false'. Refute it at one input. -/
def modulusStepsWrong : ChangeSpec := { name := "modulusSteps", fn := fun _ => fun
  | [d1, d2, d3] => { results := [.lit (.bool false)], args := [d1, d2, d3] }
  | _ => none }
def ModulusStepsWrongFalsely : Prop := modulusStepsRow.holds Try.pinned (OpenSpec.ofChange modulusStepsWrong)

/-- 'lodgelaw04.ModulusFermat': WHATEVER THE INPUT: true; the input reads as it did. -/
def modulusFermatSpec : ChangeSpec := { name := "modulusFermat", fn := fun _ => fun
  | [d1, d2] => { results := [.lit (.bool true)], args := [d1, d2] }
  | _ => none }
def modulusFermatRow : OpenClaim := { program := "ytocdaciecmjpcaa", sum := "27a173f2fa2102cd70b39992245c0d940ab49891568f5562758a3d81641559a2", func := "lodge/lodgelaw04.ModulusFermat", spec := "modulusFermat", inPlace := ["math/bits.Add64", "math/bits.Sub64"], unfollowed := true, recurses := true, named := ["math/bits.divideError", "math/bits.overflowError"], apart := false }
def ModulusFermatSaid : Prop := modulusFermatRow.holds Try.pinned (OpenSpec.ofChange modulusFermatSpec)

/-- ITS FALSE NEIGHBOUR: 'it returns false'. Refute it at one input. -/
def modulusFermatWrong : ChangeSpec := { name := "modulusFermat", fn := fun _ => fun
  | [d1, d2] => { results := [.lit (.bool false)], args := [d1, d2] }
  | _ => none }
def ModulusFermatWrongFalsely : Prop := modulusFermatRow.holds Try.pinned (OpenSpec.ofChange modulusFermatWrong)

/-- 'lodgelaw04.ModulusRings': WHATEVER THE INPUT: true; the input reads as it did. -/
def modulusRingsSpec : ChangeSpec := { name := "modulusRings", fn := fun _ => fun
  | [d1, d2, d3] => { results := [.lit (.bool true)], args := [d1, d2, d3] }
  | _ => none }
def modulusRingsRow : OpenClaim := { program := "ytocdaciecmjpcaa", sum := "27a173f2fa2102cd70b39992245c0d940ab49891568f5562758a3d81641559a2", func := "lodge/lodgelaw04.ModulusRings", spec := "modulusRings", inPlace := ["math/bits.Add64", "math/bits.Sub64"], unfollowed := true, recurses := true, named := ["math/bits.divideError", "math/bits.overflowError"], apart := false }
def ModulusRingsSaid : Prop := modulusRingsRow.holds Try.pinned (OpenSpec.ofChange modulusRingsSpec)

/-- ITS FALSE NEIGHBOUR: 'it returns false'. Refute it at one input. -/
def modulusRingsWrong : ChangeSpec := { name := "modulusRings", fn := fun _ => fun
  | [d1, d2, d3] => { results := [.lit (.bool false)], args := [d1, d2, d3] }
  | _ => none }
def ModulusRingsWrongFalsely : Prop := modulusRingsRow.holds Try.pinned (OpenSpec.ofChange modulusRingsWrong)

/- THE SECOND FORM. 'bulk': how many values and letters a reading holds, each counted each time it is reached (what is shared counts as often as it is met; a slice's spare places count too). A statement '..UptoSaid' is the law's where the arguments, and the package variables that the reading takes, are together of bulk at most 1048576: NARROWER than '..Said'. Prove '..Said' where nothing that the law and all that it calls make is longer than what came in: it says more and counts as full. Else prove '..UptoSaid'. A law counts once. -/
mutual
def uptoBulk {H : Type} : DataW H → Nat
  | .lit (.string bytes) => bytes.length + 1
  | .lit _ => 1
  | .nil => 1
  | .ptr d => uptoBulk d + 1
  | .slice elems spare => uptoBulkAll elems + uptoBulkAll spare + 1
  | .agg parts => uptoBulkAll parts + 1
  | .iface _ d => uptoBulk d + 1
  | .map entries => uptoBulkEntries entries + 1
  | .held _ => 1
def uptoBulkAll {H : Type} : List (DataW H) → Nat
  | [] => 0
  | d :: r => uptoBulk d + uptoBulkAll r
def uptoBulkEntries {H : Type} : List (Lit × DataW H) → Nat
  | [] => 0
  | x :: r => uptoBulkEntry x + uptoBulkEntries r
def uptoBulkEntry {H : Type} : Lit × DataW H → Nat
  | (.string bytes, d) => bytes.length + uptoBulk d + 1
  | (_, d) => uptoBulk d + 1
 end
def uptoSmall : (H : Type) → List (DataW H) → Bool := fun _ ds => decide (uptoBulkAll ds ≤ 1048576)
def OpenSpec.upto (s : _root_.Go.ChangeSpec) : _root_.Go.OpenSpec := { _root_.Go.OpenSpec.ofChange s with cond := some uptoSmall }

/-- 'lodgelaw04.ModulusTells', WHERE WHAT IT READS IS OF BULK AT MOST 1048576: true; the input reads as it did. -/
def modulusTellsUptoRow : OpenClaim := { program := "ytocdaciecmjpcaa", sum := "27a173f2fa2102cd70b39992245c0d940ab49891568f5562758a3d81641559a2", func := "lodge/lodgelaw04.ModulusTells", spec := "modulusTells", inPlace := ["math/bits.Add64", "math/bits.Sub64"], unfollowed := true, recurses := true, named := ["math/bits.divideError", "math/bits.overflowError"], apart := false, narrowed := true }
def ModulusTellsUptoSaid : Prop := modulusTellsUptoRow.holds Try.pinned (OpenSpec.upto modulusTellsSpec)

/-- 'lodgelaw04.ModulusPowers', WHERE WHAT IT READS IS OF BULK AT MOST 1048576: true; the input reads as it did. -/
def modulusPowersUptoRow : OpenClaim := { program := "ytocdaciecmjpcaa", sum := "27a173f2fa2102cd70b39992245c0d940ab49891568f5562758a3d81641559a2", func := "lodge/lodgelaw04.ModulusPowers", spec := "modulusPowers", inPlace := ["math/bits.Add64", "math/bits.Sub64"], unfollowed := true, recurses := true, named := ["math/bits.divideError", "math/bits.overflowError"], apart := false, narrowed := true }
def ModulusPowersUptoSaid : Prop := modulusPowersUptoRow.holds Try.pinned (OpenSpec.upto modulusPowersSpec)

/-- 'lodgelaw04.ModulusSteps', WHERE WHAT IT READS IS OF BULK AT MOST 1048576: true; the input reads as it did. -/
def modulusStepsUptoRow : OpenClaim := { program := "ytocdaciecmjpcaa", sum := "27a173f2fa2102cd70b39992245c0d940ab49891568f5562758a3d81641559a2", func := "lodge/lodgelaw04.ModulusSteps", spec := "modulusSteps", inPlace := ["math/bits.Add64", "math/bits.Sub64"], unfollowed := true, recurses := true, named := ["math/bits.divideError", "math/bits.overflowError"], apart := false, narrowed := true }
def ModulusStepsUptoSaid : Prop := modulusStepsUptoRow.holds Try.pinned (OpenSpec.upto modulusStepsSpec)

/-- 'lodgelaw04.ModulusFermat', WHERE WHAT IT READS IS OF BULK AT MOST 1048576: true; the input reads as it did. -/
def modulusFermatUptoRow : OpenClaim := { program := "ytocdaciecmjpcaa", sum := "27a173f2fa2102cd70b39992245c0d940ab49891568f5562758a3d81641559a2", func := "lodge/lodgelaw04.ModulusFermat", spec := "modulusFermat", inPlace := ["math/bits.Add64", "math/bits.Sub64"], unfollowed := true, recurses := true, named := ["math/bits.divideError", "math/bits.overflowError"], apart := false, narrowed := true }
def ModulusFermatUptoSaid : Prop := modulusFermatUptoRow.holds Try.pinned (OpenSpec.upto modulusFermatSpec)

/-- 'lodgelaw04.ModulusRings', WHERE WHAT IT READS IS OF BULK AT MOST 1048576: true; the input reads as it did. -/
def modulusRingsUptoRow : OpenClaim := { program := "ytocdaciecmjpcaa", sum := "27a173f2fa2102cd70b39992245c0d940ab49891568f5562758a3d81641559a2", func := "lodge/lodgelaw04.ModulusRings", spec := "modulusRings", inPlace := ["math/bits.Add64", "math/bits.Sub64"], unfollowed := true, recurses := true, named := ["math/bits.divideError", "math/bits.overflowError"], apart := false, narrowed := true }
def ModulusRingsUptoSaid : Prop := modulusRingsUptoRow.holds Try.pinned (OpenSpec.upto modulusRingsSpec)

end Rows
end Go.Proofs.Ytocdaciecmjpcaa
