/-
  No cell of these rows narrows 'for every input' (looked for: loops, veiled, ifaces, maps, wideKeys, modest, calm, conditions, laid).
  DERIVED. THE GIVEN ROWS OF THIS SEAT. 5 by the template 'for every input the law returns true; each argument reads behind the call as it read before'; 0 by the template 'total and deterministic' (their statements: YtoddcpkogapolaaTotals.lean).
  GIVEN WITH THE SEED: the statements are not yours to turn. If you find one false, say at which input.
  Laid BY PROGRAM, IN A SANDBOX (cutbox-rows.mjs): the forced cells as the released guide's own fill.sh prints them over the translation 1123db959c53d4c4… (all of the seat's roots in one cut). By AI agents, Wed Nov 11 2026. No macro, syntax, notation, axiom, sorry.
-/
import Derived.Test.YtoddcpkogapolaaChecked
import GoSem.Claim
import GoSem.ClaimJoined
import GoSem.ClaimMapViews
import Derived.JoinedTies
import Derived.KernelRfl
namespace Go.Proofs.Ytoddcpkogapolaa
/- THE CELL 'sum', in the pinned program and in every row, IS THE sha256 OF THE DUMP (.gsa) THAT YtoddcpkogapolaaProg.lean LOADS. Nothing in Lean hashes anything: it is a label: what it is worth is what the hold of that sum in a sandbox is worth. -/
noncomputable def Try.pinned : Pinned := { name := "ytoddcpkogapolaa", sum := "1123db959c53d4c4f4cb2660cd6d0582dc1d3064a5bc605d2cb80c69ef981ada", checked := Try.checked }
namespace Rows
def none {H : Type} : Left H := { results := [], args := [] }

/-- 'lodgelaw10.LabelTells': WHATEVER THE INPUT: true; the input reads as it did. -/
def labelTellsSpec : ChangeSpec := { name := "labelTells", fn := fun _ => fun
  | [d1, d2] => { results := [.lit (.bool true)], args := [d1, d2] }
  | _ => none }
def labelTellsRow : OpenClaim := { program := "ytoddcpkogapolaa", sum := "1123db959c53d4c4f4cb2660cd6d0582dc1d3064a5bc605d2cb80c69ef981ada", func := "lodge/lodgelaw10.LabelTells", spec := "labelTells", recurses := true, apart := false }
def LabelTellsSaid : Prop := labelTellsRow.holds Try.pinned (OpenSpec.ofChange labelTellsSpec)

/-- ITS FALSE NEIGHBOUR: 'it returns false'. Refute it at one input. -/
def labelTellsWrong : ChangeSpec := { name := "labelTells", fn := fun _ => fun
  | [d1, d2] => { results := [.lit (.bool false)], args := [d1, d2] }
  | _ => none }
def LabelTellsWrongFalsely : Prop := labelTellsRow.holds Try.pinned (OpenSpec.ofChange labelTellsWrong)

/-- 'lodgelaw10.LabelOf': WHATEVER THE INPUT: true; the input reads as it did. -/
def labelOfSpec : ChangeSpec := { name := "labelOf", fn := fun _ => fun
  | [d1, d2] => { results := [.lit (.bool true)], args := [d1, d2] }
  | _ => none }
def labelOfRow : OpenClaim := { program := "ytoddcpkogapolaa", sum := "1123db959c53d4c4f4cb2660cd6d0582dc1d3064a5bc605d2cb80c69ef981ada", func := "lodge/lodgelaw10.LabelOf", spec := "labelOf", recurses := true, apart := false }
def LabelOfSaid : Prop := labelOfRow.holds Try.pinned (OpenSpec.ofChange labelOfSpec)

/-- ITS FALSE NEIGHBOUR: 'it returns false'. Refute it at one input. -/
def labelOfWrong : ChangeSpec := { name := "labelOf", fn := fun _ => fun
  | [d1, d2] => { results := [.lit (.bool false)], args := [d1, d2] }
  | _ => none }
def LabelOfWrongFalsely : Prop := labelOfRow.holds Try.pinned (OpenSpec.ofChange labelOfWrong)

/-- 'lodgelaw10.LabelBack': WHATEVER THE INPUT: true; the input reads as it did. -/
def labelBackSpec : ChangeSpec := { name := "labelBack", fn := fun _ => fun
  | [d1, d2] => { results := [.lit (.bool true)], args := [d1, d2] }
  | _ => none }
def labelBackRow : OpenClaim := { program := "ytoddcpkogapolaa", sum := "1123db959c53d4c4f4cb2660cd6d0582dc1d3064a5bc605d2cb80c69ef981ada", func := "lodge/lodgelaw10.LabelBack", spec := "labelBack", recurses := true, apart := false }
def LabelBackSaid : Prop := labelBackRow.holds Try.pinned (OpenSpec.ofChange labelBackSpec)

/-- ITS FALSE NEIGHBOUR: 'it returns false'. Refute it at one input. -/
def labelBackWrong : ChangeSpec := { name := "labelBack", fn := fun _ => fun
  | [d1, d2] => { results := [.lit (.bool false)], args := [d1, d2] }
  | _ => none }
def LabelBackWrongFalsely : Prop := labelBackRow.holds Try.pinned (OpenSpec.ofChange labelBackWrong)

/-- 'lodgelaw10.LabelHalves': WHATEVER THE INPUT: true; the input reads as it did. -/
def labelHalvesSpec : ChangeSpec := { name := "labelHalves", fn := fun _ => fun
  | [d1, d2] => { results := [.lit (.bool true)], args := [d1, d2] }
  | _ => none }
def labelHalvesRow : OpenClaim := { program := "ytoddcpkogapolaa", sum := "1123db959c53d4c4f4cb2660cd6d0582dc1d3064a5bc605d2cb80c69ef981ada", func := "lodge/lodgelaw10.LabelHalves", spec := "labelHalves", recurses := true, apart := false }
def LabelHalvesSaid : Prop := labelHalvesRow.holds Try.pinned (OpenSpec.ofChange labelHalvesSpec)

/-- ITS FALSE NEIGHBOUR: 'it returns false'. Refute it at one input. -/
def labelHalvesWrong : ChangeSpec := { name := "labelHalves", fn := fun _ => fun
  | [d1, d2] => { results := [.lit (.bool false)], args := [d1, d2] }
  | _ => none }
def LabelHalvesWrongFalsely : Prop := labelHalvesRow.holds Try.pinned (OpenSpec.ofChange labelHalvesWrong)

/-- 'lodgelaw10.LabelCounts': WHATEVER THE INPUT: true; the input reads as it did. -/
def labelCountsSpec : ChangeSpec := { name := "labelCounts", fn := fun _ => fun
  | [d] => { results := [.lit (.bool true)], args := [d] }
  | _ => none }
def labelCountsRow : OpenClaim := { program := "ytoddcpkogapolaa", sum := "1123db959c53d4c4f4cb2660cd6d0582dc1d3064a5bc605d2cb80c69ef981ada", func := "lodge/lodgelaw10.LabelCounts", spec := "labelCounts", recurses := true, apart := false }
def LabelCountsSaid : Prop := labelCountsRow.holds Try.pinned (OpenSpec.ofChange labelCountsSpec)

/-- ITS FALSE NEIGHBOUR: 'it returns false'. Refute it at one input. -/
def labelCountsWrong : ChangeSpec := { name := "labelCounts", fn := fun _ => fun
  | [d] => { results := [.lit (.bool false)], args := [d] }
  | _ => none }
def LabelCountsWrongFalsely : Prop := labelCountsRow.holds Try.pinned (OpenSpec.ofChange labelCountsWrong)

/- THE SECOND FORM. 'bulk': how many values and letters a reading holds, each counted each time it is reached (what is shared counts as often as it is met; a slice's spare places count too). A statement '..UptoSaid' is the law's where the arguments, and the package variables that the reading takes, are together of bulk at most 1048576: NARROWER than '..Said'. Prove '..Said' where nothing that the law and all that it calls make is longer than what came in: it says more and counts as full. Else prove '..UptoSaid'. A law counts once. -/
mutual
def uptoBulk {H : Type} : DataW H → Nat
  | .lit (.string bytes) => bytes.length + 1
  | .lit _ => 1
  | .nil => 1
  | .ptr d => uptoBulk d + 1
  | .slice elems spare => uptoBulkAll elems + uptoBulkAll spare + 1
  | .agg parts => uptoBulkAll parts + 1
  | .iface _ d => uptoBulk d + 1
  | .map entries => uptoBulkEntries entries + 1
  | .held _ => 1
def uptoBulkAll {H : Type} : List (DataW H) → Nat
  | [] => 0
  | d :: r => uptoBulk d + uptoBulkAll r
def uptoBulkEntries {H : Type} : List (Lit × DataW H) → Nat
  | [] => 0
  | x :: r => uptoBulkEntry x + uptoBulkEntries r
def uptoBulkEntry {H : Type} : Lit × DataW H → Nat
  | (.string bytes, d) => bytes.length + uptoBulk d + 1
  | (_, d) => uptoBulk d + 1
 end
def uptoSmall : (H : Type) → List (DataW H) → Bool := fun _ ds => decide (uptoBulkAll ds ≤ 1048576)
def OpenSpec.upto (s : _root_.Go.ChangeSpec) : _root_.Go.OpenSpec := { _root_.Go.OpenSpec.ofChange s with cond := some uptoSmall }

/-- 'lodgelaw10.LabelTells', WHERE WHAT IT READS IS OF BULK AT MOST 1048576: true; the input reads as it did. -/
def labelTellsUptoRow : OpenClaim := { program := "ytoddcpkogapolaa", sum := "1123db959c53d4c4f4cb2660cd6d0582dc1d3064a5bc605d2cb80c69ef981ada", func := "lodge/lodgelaw10.LabelTells", spec := "labelTells", recurses := true, apart := false, narrowed := true }
def LabelTellsUptoSaid : Prop := labelTellsUptoRow.holds Try.pinned (OpenSpec.upto labelTellsSpec)

/-- 'lodgelaw10.LabelOf', WHERE WHAT IT READS IS OF BULK AT MOST 1048576: true; the input reads as it did. -/
def labelOfUptoRow : OpenClaim := { program := "ytoddcpkogapolaa", sum := "1123db959c53d4c4f4cb2660cd6d0582dc1d3064a5bc605d2cb80c69ef981ada", func := "lodge/lodgelaw10.LabelOf", spec := "labelOf", recurses := true, apart := false, narrowed := true }
def LabelOfUptoSaid : Prop := labelOfUptoRow.holds Try.pinned (OpenSpec.upto labelOfSpec)

/-- 'lodgelaw10.LabelBack', WHERE WHAT IT READS IS OF BULK AT MOST 1048576: true; the input reads as it did. -/
def labelBackUptoRow : OpenClaim := { program := "ytoddcpkogapolaa", sum := "1123db959c53d4c4f4cb2660cd6d0582dc1d3064a5bc605d2cb80c69ef981ada", func := "lodge/lodgelaw10.LabelBack", spec := "labelBack", recurses := true, apart := false, narrowed := true }
def LabelBackUptoSaid : Prop := labelBackUptoRow.holds Try.pinned (OpenSpec.upto labelBackSpec)

/-- 'lodgelaw10.LabelHalves', WHERE WHAT IT READS IS OF BULK AT MOST 1048576: true; the input reads as it did. -/
def labelHalvesUptoRow : OpenClaim := { program := "ytoddcpkogapolaa", sum := "1123db959c53d4c4f4cb2660cd6d0582dc1d3064a5bc605d2cb80c69ef981ada", func := "lodge/lodgelaw10.LabelHalves", spec := "labelHalves", recurses := true, apart := false, narrowed := true }
def LabelHalvesUptoSaid : Prop := labelHalvesUptoRow.holds Try.pinned (OpenSpec.upto labelHalvesSpec)

/-- 'lodgelaw10.LabelCounts', WHERE WHAT IT READS IS OF BULK AT MOST 1048576: true; the input reads as it did. -/
def labelCountsUptoRow : OpenClaim := { program := "ytoddcpkogapolaa", sum := "1123db959c53d4c4f4cb2660cd6d0582dc1d3064a5bc605d2cb80c69ef981ada", func := "lodge/lodgelaw10.LabelCounts", spec := "labelCounts", recurses := true, apart := false, narrowed := true }
def LabelCountsUptoSaid : Prop := labelCountsUptoRow.holds Try.pinned (OpenSpec.upto labelCountsSpec)

end Rows
end Go.Proofs.Ytoddcpkogapolaa
