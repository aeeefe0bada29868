/-
  No cell of these rows narrows 'for every input' (looked for: loops, veiled, ifaces, maps, wideKeys, modest, calm, conditions, laid).
  DERIVED. THE GIVEN ROWS OF THIS SEAT. 5 by the template 'for every input the law returns true; each argument reads behind the call as it read before'; 0 by the template 'total and deterministic' (their statements: YtgcglhahhphakaaTotals.lean).
  GIVEN WITH THE SEED: the statements are not yours to turn. If you find one false, say at which input.
  Laid BY PROGRAM, IN A SANDBOX (cutbox-rows.mjs): the forced cells as the released guide's own fill.sh prints them over the translation c2f66a988ab78a63… (all of the seat's roots in one cut). By AI agents, Wed Nov 11 2026. No macro, syntax, notation, axiom, sorry.
-/
import Derived.Test.YtgcglhahhphakaaChecked
import GoSem.Claim
import GoSem.ClaimJoined
import GoSem.ClaimMapViews
import Derived.JoinedTies
import Derived.KernelRfl
namespace Go.Proofs.Ytgcglhahhphakaa
/- THE CELL 'sum', in the pinned program and in every row, IS THE sha256 OF THE DUMP (.gsa) THAT YtgcglhahhphakaaProg.lean LOADS. Nothing in Lean hashes anything: it is a label: what it is worth is what the hold of that sum in a sandbox is worth. -/
noncomputable def Try.pinned : Pinned := { name := "ytgcglhahhphakaa", sum := "c2f66a988ab78a63f40fc89136a6f254c224efa54bf3dd5f5840f882780486ce", checked := Try.checked }
namespace Rows
def none {H : Type} : Left H := { results := [], args := [] }

/-- 'lodgelaw02.LongTells': WHATEVER THE INPUT: true; the input reads as it did. -/
def longTellsSpec : ChangeSpec := { name := "longTells", fn := fun _ => fun
  | [d1, d2] => { results := [.lit (.bool true)], args := [d1, d2] }
  | _ => none }
def longTellsRow : OpenClaim := { program := "ytgcglhahhphakaa", sum := "c2f66a988ab78a63f40fc89136a6f254c224efa54bf3dd5f5840f882780486ce", func := "lodge/lodgelaw02.LongTells", spec := "longTells", inPlace := ["math/bits.Add64", "math/bits.Sub64"], unfollowed := true, recurses := true, named := ["math/bits.divideError", "math/bits.overflowError"], apart := false }
def LongTellsSaid : Prop := longTellsRow.holds Try.pinned (OpenSpec.ofChange longTellsSpec)

/-- ITS FALSE NEIGHBOUR: 'it returns false'. Refute it at one input. -/
def longTellsWrong : ChangeSpec := { name := "longTells", fn := fun _ => fun
  | [d1, d2] => { results := [.lit (.bool false)], args := [d1, d2] }
  | _ => none }
def LongTellsWrongFalsely : Prop := longTellsRow.holds Try.pinned (OpenSpec.ofChange longTellsWrong)

/-- 'lodgelaw02.LongEuclid': WHATEVER THE INPUT: true; the input reads as it did. -/
def longEuclidSpec : ChangeSpec := { name := "longEuclid", fn := fun _ => fun
  | [d1, d2] => { results := [.lit (.bool true)], args := [d1, d2] }
  | _ => none }
def longEuclidRow : OpenClaim := { program := "ytgcglhahhphakaa", sum := "c2f66a988ab78a63f40fc89136a6f254c224efa54bf3dd5f5840f882780486ce", func := "lodge/lodgelaw02.LongEuclid", spec := "longEuclid", inPlace := ["math/bits.Add64", "math/bits.Sub64"], unfollowed := true, recurses := true, named := ["math/bits.divideError", "math/bits.overflowError"], apart := false }
def LongEuclidSaid : Prop := longEuclidRow.holds Try.pinned (OpenSpec.ofChange longEuclidSpec)

/-- ITS FALSE NEIGHBOUR: 'it returns false'. Refute it at one input. -/
def longEuclidWrong : ChangeSpec := { name := "longEuclid", fn := fun _ => fun
  | [d1, d2] => { results := [.lit (.bool false)], args := [d1, d2] }
  | _ => none }
def LongEuclidWrongFalsely : Prop := longEuclidRow.holds Try.pinned (OpenSpec.ofChange longEuclidWrong)

/-- 'lodgelaw02.LongBack': WHATEVER THE INPUT: true; the input reads as it did. -/
def longBackSpec : ChangeSpec := { name := "longBack", fn := fun _ => fun
  | [d1, d2, d3] => { results := [.lit (.bool true)], args := [d1, d2, d3] }
  | _ => none }
def longBackRow : OpenClaim := { program := "ytgcglhahhphakaa", sum := "c2f66a988ab78a63f40fc89136a6f254c224efa54bf3dd5f5840f882780486ce", func := "lodge/lodgelaw02.LongBack", spec := "longBack", inPlace := ["math/bits.Add64", "math/bits.Sub64"], unfollowed := true, recurses := true, named := ["math/bits.divideError", "math/bits.overflowError"], apart := false }
def LongBackSaid : Prop := longBackRow.holds Try.pinned (OpenSpec.ofChange longBackSpec)

/-- ITS FALSE NEIGHBOUR: 'it returns false'. Refute it at one input. -/
def longBackWrong : ChangeSpec := { name := "longBack", fn := fun _ => fun
  | [d1, d2, d3] => { results := [.lit (.bool false)], args := [d1, d2, d3] }
  | _ => none }
def LongBackWrongFalsely : Prop := longBackRow.holds Try.pinned (OpenSpec.ofChange longBackWrong)

/-- 'lodgelaw02.LongRings': WHATEVER THE INPUT: true; the input reads as it did. -/
def longRingsSpec : ChangeSpec := { name := "longRings", fn := fun _ => fun
  | [d1, d2, d3] => { results := [.lit (.bool true)], args := [d1, d2, d3] }
  | _ => none }
def longRingsRow : OpenClaim := { program := "ytgcglhahhphakaa", sum := "c2f66a988ab78a63f40fc89136a6f254c224efa54bf3dd5f5840f882780486ce", func := "lodge/lodgelaw02.LongRings", spec := "longRings", inPlace := ["math/bits.Add64", "math/bits.Sub64"], unfollowed := true, recurses := true, named := ["math/bits.divideError", "math/bits.overflowError"], apart := false }
def LongRingsSaid : Prop := longRingsRow.holds Try.pinned (OpenSpec.ofChange longRingsSpec)

/-- ITS FALSE NEIGHBOUR: 'it returns false'. Refute it at one input. -/
def longRingsWrong : ChangeSpec := { name := "longRings", fn := fun _ => fun
  | [d1, d2, d3] => { results := [.lit (.bool false)], args := [d1, d2, d3] }
  | _ => none }
def LongRingsWrongFalsely : Prop := longRingsRow.holds Try.pinned (OpenSpec.ofChange longRingsWrong)

/-- 'lodgelaw02.LongLimbs': WHATEVER THE INPUT: true; the input reads as it did. -/
def longLimbsSpec : ChangeSpec := { name := "longLimbs", fn := fun _ => fun
  | [d] => { results := [.lit (.bool true)], args := [d] }
  | _ => none }
def longLimbsRow : OpenClaim := { program := "ytgcglhahhphakaa", sum := "c2f66a988ab78a63f40fc89136a6f254c224efa54bf3dd5f5840f882780486ce", func := "lodge/lodgelaw02.LongLimbs", spec := "longLimbs", inPlace := ["math/bits.Add64", "math/bits.Sub64"], unfollowed := true, recurses := true, named := ["math/bits.divideError", "math/bits.overflowError"], apart := false }
def LongLimbsSaid : Prop := longLimbsRow.holds Try.pinned (OpenSpec.ofChange longLimbsSpec)

/-- ITS FALSE NEIGHBOUR: 'it returns false'. Refute it at one input. -/
def longLimbsWrong : ChangeSpec := { name := "longLimbs", fn := fun _ => fun
  | [d] => { results := [.lit (.bool false)], args := [d] }
  | _ => none }
def LongLimbsWrongFalsely : Prop := longLimbsRow.holds Try.pinned (OpenSpec.ofChange longLimbsWrong)

/- THE SECOND FORM. 'bulk': how many values and letters a reading holds, each counted each time it is reached (what is shared counts as often as it is met; a slice's spare places count too). A statement '..UptoSaid' is the law's where the arguments, and the package variables that the reading takes, are together of bulk at most 1048576: NARROWER than '..Said'. Prove '..Said' where nothing that the law and all that it calls make is longer than what came in: it says more and counts as full. Else prove '..UptoSaid'. A law counts once. -/
mutual
def uptoBulk {H : Type} : DataW H → Nat
  | .lit (.string bytes) => bytes.length + 1
  | .lit _ => 1
  | .nil => 1
  | .ptr d => uptoBulk d + 1
  | .slice elems spare => uptoBulkAll elems + uptoBulkAll spare + 1
  | .agg parts => uptoBulkAll parts + 1
  | .iface _ d => uptoBulk d + 1
  | .map entries => uptoBulkEntries entries + 1
  | .held _ => 1
def uptoBulkAll {H : Type} : List (DataW H) → Nat
  | [] => 0
  | d :: r => uptoBulk d + uptoBulkAll r
def uptoBulkEntries {H : Type} : List (Lit × DataW H) → Nat
  | [] => 0
  | x :: r => uptoBulkEntry x + uptoBulkEntries r
def uptoBulkEntry {H : Type} : Lit × DataW H → Nat
  | (.string bytes, d) => bytes.length + uptoBulk d + 1
  | (_, d) => uptoBulk d + 1
 end
def uptoSmall : (H : Type) → List (DataW H) → Bool := fun _ ds => decide (uptoBulkAll ds ≤ 1048576)
def OpenSpec.upto (s : _root_.Go.ChangeSpec) : _root_.Go.OpenSpec := { _root_.Go.OpenSpec.ofChange s with cond := some uptoSmall }

/-- 'lodgelaw02.LongTells', WHERE WHAT IT READS IS OF BULK AT MOST 1048576: true; the input reads as it did. -/
def longTellsUptoRow : OpenClaim := { program := "ytgcglhahhphakaa", sum := "c2f66a988ab78a63f40fc89136a6f254c224efa54bf3dd5f5840f882780486ce", func := "lodge/lodgelaw02.LongTells", spec := "longTells", inPlace := ["math/bits.Add64", "math/bits.Sub64"], unfollowed := true, recurses := true, named := ["math/bits.divideError", "math/bits.overflowError"], apart := false, narrowed := true }
def LongTellsUptoSaid : Prop := longTellsUptoRow.holds Try.pinned (OpenSpec.upto longTellsSpec)

/-- 'lodgelaw02.LongEuclid', WHERE WHAT IT READS IS OF BULK AT MOST 1048576: true; the input reads as it did. -/
def longEuclidUptoRow : OpenClaim := { program := "ytgcglhahhphakaa", sum := "c2f66a988ab78a63f40fc89136a6f254c224efa54bf3dd5f5840f882780486ce", func := "lodge/lodgelaw02.LongEuclid", spec := "longEuclid", inPlace := ["math/bits.Add64", "math/bits.Sub64"], unfollowed := true, recurses := true, named := ["math/bits.divideError", "math/bits.overflowError"], apart := false, narrowed := true }
def LongEuclidUptoSaid : Prop := longEuclidUptoRow.holds Try.pinned (OpenSpec.upto longEuclidSpec)

/-- 'lodgelaw02.LongBack', WHERE WHAT IT READS IS OF BULK AT MOST 1048576: true; the input reads as it did. -/
def longBackUptoRow : OpenClaim := { program := "ytgcglhahhphakaa", sum := "c2f66a988ab78a63f40fc89136a6f254c224efa54bf3dd5f5840f882780486ce", func := "lodge/lodgelaw02.LongBack", spec := "longBack", inPlace := ["math/bits.Add64", "math/bits.Sub64"], unfollowed := true, recurses := true, named := ["math/bits.divideError", "math/bits.overflowError"], apart := false, narrowed := true }
def LongBackUptoSaid : Prop := longBackUptoRow.holds Try.pinned (OpenSpec.upto longBackSpec)

/-- 'lodgelaw02.LongRings', WHERE WHAT IT READS IS OF BULK AT MOST 1048576: true; the input reads as it did. -/
def longRingsUptoRow : OpenClaim := { program := "ytgcglhahhphakaa", sum := "c2f66a988ab78a63f40fc89136a6f254c224efa54bf3dd5f5840f882780486ce", func := "lodge/lodgelaw02.LongRings", spec := "longRings", inPlace := ["math/bits.Add64", "math/bits.Sub64"], unfollowed := true, recurses := true, named := ["math/bits.divideError", "math/bits.overflowError"], apart := false, narrowed := true }
def LongRingsUptoSaid : Prop := longRingsUptoRow.holds Try.pinned (OpenSpec.upto longRingsSpec)

/-- 'lodgelaw02.LongLimbs', WHERE WHAT IT READS IS OF BULK AT MOST 1048576: true; the input reads as it did. -/
def longLimbsUptoRow : OpenClaim := { program := "ytgcglhahhphakaa", sum := "c2f66a988ab78a63f40fc89136a6f254c224efa54bf3dd5f5840f882780486ce", func := "lodge/lodgelaw02.LongLimbs", spec := "longLimbs", inPlace := ["math/bits.Add64", "math/bits.Sub64"], unfollowed := true, recurses := true, named := ["math/bits.divideError", "math/bits.overflowError"], apart := false, narrowed := true }
def LongLimbsUptoSaid : Prop := longLimbsUptoRow.holds Try.pinned (OpenSpec.upto longLimbsSpec)

end Rows
end Go.Proofs.Ytgcglhahhphakaa
