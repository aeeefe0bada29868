/-
  No cell of these rows narrows 'for every input' (looked for: loops, veiled, ifaces, maps, wideKeys, modest, calm, conditions, laid).
  DERIVED. THE GIVEN ROWS OF THIS SEAT. 5 by the template 'for every input the law returns true; each argument reads behind the call as it read before'; 0 by the template 'total and deterministic' (their statements: YtokhaldnakjiaaaTotals.lean).
  GIVEN WITH THE SEED: the statements are not yours to turn. If you find one false, say at which input.
  Laid BY PROGRAM, IN A SANDBOX (cutbox-rows.mjs): the forced cells as the released guide's own fill.sh prints them over the translation 74d8637be4004efe… (all of the seat's roots in one cut). By AI agents, Wed Nov 11 2026. No macro, syntax, notation, axiom, sorry.
-/
import Derived.Test.YtokhaldnakjiaaaChecked
import GoSem.Claim
import GoSem.ClaimJoined
import GoSem.ClaimMapViews
import Derived.JoinedTies
import Derived.KernelRfl
namespace Go.Proofs.Ytokhaldnakjiaaa
/- THE CELL 'sum', in the pinned program and in every row, IS THE sha256 OF THE DUMP (.gsa) THAT YtokhaldnakjiaaaProg.lean LOADS. Nothing in Lean hashes anything: it is a label: what it is worth is what the hold of that sum in a sandbox is worth. -/
noncomputable def Try.pinned : Pinned := { name := "ytokhaldnakjiaaa", sum := "74d8637be4004efe598431a51a04061b9781d7170b93910e7153a1af08753722", checked := Try.checked }
namespace Rows
def none {H : Type} : Left H := { results := [], args := [] }

/-- 'lodgelaw12.GraftMerges': WHATEVER THE INPUT: true; the input reads as it did. -/
def graftMergesSpec : ChangeSpec := { name := "graftMerges", fn := fun _ => fun
  | [d] => { results := [.lit (.bool true)], args := [d] }
  | _ => none }
def graftMergesRow : OpenClaim := { program := "ytokhaldnakjiaaa", sum := "74d8637be4004efe598431a51a04061b9781d7170b93910e7153a1af08753722", func := "lodge/lodgelaw12.GraftMerges", spec := "graftMerges", unfollowed := true, recurses := true, apart := false }
def GraftMergesSaid : Prop := graftMergesRow.holds Try.pinned (OpenSpec.ofChange graftMergesSpec)

/-- ITS FALSE NEIGHBOUR: 'it returns false'. Refute it at one input. -/
def graftMergesWrong : ChangeSpec := { name := "graftMerges", fn := fun _ => fun
  | [d] => { results := [.lit (.bool false)], args := [d] }
  | _ => none }
def GraftMergesWrongFalsely : Prop := graftMergesRow.holds Try.pinned (OpenSpec.ofChange graftMergesWrong)

/-- 'lodgelaw12.GraftKeeps': WHATEVER THE INPUT: true; the input reads as it did. -/
def graftKeepsSpec : ChangeSpec := { name := "graftKeeps", fn := fun _ => fun
  | [d1, d2] => { results := [.lit (.bool true)], args := [d1, d2] }
  | _ => none }
def graftKeepsRow : OpenClaim := { program := "ytokhaldnakjiaaa", sum := "74d8637be4004efe598431a51a04061b9781d7170b93910e7153a1af08753722", func := "lodge/lodgelaw12.GraftKeeps", spec := "graftKeeps", unfollowed := true, recurses := true, apart := false }
def GraftKeepsSaid : Prop := graftKeepsRow.holds Try.pinned (OpenSpec.ofChange graftKeepsSpec)

/-- ITS FALSE NEIGHBOUR: 'it returns false'. Refute it at one input. -/
def graftKeepsWrong : ChangeSpec := { name := "graftKeeps", fn := fun _ => fun
  | [d1, d2] => { results := [.lit (.bool false)], args := [d1, d2] }
  | _ => none }
def GraftKeepsWrongFalsely : Prop := graftKeepsRow.holds Try.pinned (OpenSpec.ofChange graftKeepsWrong)

/-- 'lodgelaw12.GraftLow': WHATEVER THE INPUT: true; the input reads as it did. -/
def graftLowSpec : ChangeSpec := { name := "graftLow", fn := fun _ => fun
  | [d] => { results := [.lit (.bool true)], args := [d] }
  | _ => none }
def graftLowRow : OpenClaim := { program := "ytokhaldnakjiaaa", sum := "74d8637be4004efe598431a51a04061b9781d7170b93910e7153a1af08753722", func := "lodge/lodgelaw12.GraftLow", spec := "graftLow", unfollowed := true, recurses := true, apart := false }
def GraftLowSaid : Prop := graftLowRow.holds Try.pinned (OpenSpec.ofChange graftLowSpec)

/-- ITS FALSE NEIGHBOUR: 'it returns false'. Refute it at one input. -/
def graftLowWrong : ChangeSpec := { name := "graftLow", fn := fun _ => fun
  | [d] => { results := [.lit (.bool false)], args := [d] }
  | _ => none }
def GraftLowWrongFalsely : Prop := graftLowRow.holds Try.pinned (OpenSpec.ofChange graftLowWrong)

/-- 'lodgelaw12.GraftOrder': WHATEVER THE INPUT: true; the input reads as it did. -/
def graftOrderSpec : ChangeSpec := { name := "graftOrder", fn := fun _ => fun
  | [d1, d2] => { results := [.lit (.bool true)], args := [d1, d2] }
  | _ => none }
def graftOrderRow : OpenClaim := { program := "ytokhaldnakjiaaa", sum := "74d8637be4004efe598431a51a04061b9781d7170b93910e7153a1af08753722", func := "lodge/lodgelaw12.GraftOrder", spec := "graftOrder", unfollowed := true, recurses := true, apart := false }
def GraftOrderSaid : Prop := graftOrderRow.holds Try.pinned (OpenSpec.ofChange graftOrderSpec)

/-- ITS FALSE NEIGHBOUR: 'it returns false'. Refute it at one input. -/
def graftOrderWrong : ChangeSpec := { name := "graftOrder", fn := fun _ => fun
  | [d1, d2] => { results := [.lit (.bool false)], args := [d1, d2] }
  | _ => none }
def GraftOrderWrongFalsely : Prop := graftOrderRow.holds Try.pinned (OpenSpec.ofChange graftOrderWrong)

/-- 'lodgelaw12.GraftRight': WHATEVER THE INPUT: true; the input reads as it did. -/
def graftRightSpec : ChangeSpec := { name := "graftRight", fn := fun _ => fun
  | [d1, d2, d3] => { results := [.lit (.bool true)], args := [d1, d2, d3] }
  | _ => none }
def graftRightRow : OpenClaim := { program := "ytokhaldnakjiaaa", sum := "74d8637be4004efe598431a51a04061b9781d7170b93910e7153a1af08753722", func := "lodge/lodgelaw12.GraftRight", spec := "graftRight", unfollowed := true, recurses := true, apart := false }
def GraftRightSaid : Prop := graftRightRow.holds Try.pinned (OpenSpec.ofChange graftRightSpec)

/-- ITS FALSE NEIGHBOUR: 'it returns false'. Refute it at one input. -/
def graftRightWrong : ChangeSpec := { name := "graftRight", fn := fun _ => fun
  | [d1, d2, d3] => { results := [.lit (.bool false)], args := [d1, d2, d3] }
  | _ => none }
def GraftRightWrongFalsely : Prop := graftRightRow.holds Try.pinned (OpenSpec.ofChange graftRightWrong)

/- THE SECOND FORM. 'bulk': how many values and letters a reading holds, each counted each time it is reached (what is shared counts as often as it is met; a slice's spare places count too). A statement '..UptoSaid' is the law's where the arguments, and the package variables that the reading takes, are together of bulk at most 1048576: NARROWER than '..Said'. Prove '..Said' where nothing that the law and all that it calls make is longer than what came in: it says more and counts as full. Else prove '..UptoSaid'. A law counts once. -/
mutual
def uptoBulk {H : Type} : DataW H → Nat
  | .lit (.string bytes) => bytes.length + 1
  | .lit _ => 1
  | .nil => 1
  | .ptr d => uptoBulk d + 1
  | .slice elems spare => uptoBulkAll elems + uptoBulkAll spare + 1
  | .agg parts => uptoBulkAll parts + 1
  | .iface _ d => uptoBulk d + 1
  | .map entries => uptoBulkEntries entries + 1
  | .held _ => 1
def uptoBulkAll {H : Type} : List (DataW H) → Nat
  | [] => 0
  | d :: r => uptoBulk d + uptoBulkAll r
def uptoBulkEntries {H : Type} : List (Lit × DataW H) → Nat
  | [] => 0
  | x :: r => uptoBulkEntry x + uptoBulkEntries r
def uptoBulkEntry {H : Type} : Lit × DataW H → Nat
  | (.string bytes, d) => bytes.length + uptoBulk d + 1
  | (_, d) => uptoBulk d + 1
 end
def uptoSmall : (H : Type) → List (DataW H) → Bool := fun _ ds => decide (uptoBulkAll ds ≤ 1048576)
def OpenSpec.upto (s : _root_.Go.ChangeSpec) : _root_.Go.OpenSpec := { _root_.Go.OpenSpec.ofChange s with cond := some uptoSmall }

/-- 'lodgelaw12.GraftMerges', WHERE WHAT IT READS IS OF BULK AT MOST 1048576: true; the input reads as it did. -/
def graftMergesUptoRow : OpenClaim := { program := "ytokhaldnakjiaaa", sum := "74d8637be4004efe598431a51a04061b9781d7170b93910e7153a1af08753722", func := "lodge/lodgelaw12.GraftMerges", spec := "graftMerges", unfollowed := true, recurses := true, apart := false, narrowed := true }
def GraftMergesUptoSaid : Prop := graftMergesUptoRow.holds Try.pinned (OpenSpec.upto graftMergesSpec)

/-- 'lodgelaw12.GraftKeeps', WHERE WHAT IT READS IS OF BULK AT MOST 1048576: true; the input reads as it did. -/
def graftKeepsUptoRow : OpenClaim := { program := "ytokhaldnakjiaaa", sum := "74d8637be4004efe598431a51a04061b9781d7170b93910e7153a1af08753722", func := "lodge/lodgelaw12.GraftKeeps", spec := "graftKeeps", unfollowed := true, recurses := true, apart := false, narrowed := true }
def GraftKeepsUptoSaid : Prop := graftKeepsUptoRow.holds Try.pinned (OpenSpec.upto graftKeepsSpec)

/-- 'lodgelaw12.GraftLow', WHERE WHAT IT READS IS OF BULK AT MOST 1048576: true; the input reads as it did. -/
def graftLowUptoRow : OpenClaim := { program := "ytokhaldnakjiaaa", sum := "74d8637be4004efe598431a51a04061b9781d7170b93910e7153a1af08753722", func := "lodge/lodgelaw12.GraftLow", spec := "graftLow", unfollowed := true, recurses := true, apart := false, narrowed := true }
def GraftLowUptoSaid : Prop := graftLowUptoRow.holds Try.pinned (OpenSpec.upto graftLowSpec)

/-- 'lodgelaw12.GraftOrder', WHERE WHAT IT READS IS OF BULK AT MOST 1048576: true; the input reads as it did. -/
def graftOrderUptoRow : OpenClaim := { program := "ytokhaldnakjiaaa", sum := "74d8637be4004efe598431a51a04061b9781d7170b93910e7153a1af08753722", func := "lodge/lodgelaw12.GraftOrder", spec := "graftOrder", unfollowed := true, recurses := true, apart := false, narrowed := true }
def GraftOrderUptoSaid : Prop := graftOrderUptoRow.holds Try.pinned (OpenSpec.upto graftOrderSpec)

/-- 'lodgelaw12.GraftRight', WHERE WHAT IT READS IS OF BULK AT MOST 1048576: true; the input reads as it did. -/
def graftRightUptoRow : OpenClaim := { program := "ytokhaldnakjiaaa", sum := "74d8637be4004efe598431a51a04061b9781d7170b93910e7153a1af08753722", func := "lodge/lodgelaw12.GraftRight", spec := "graftRight", unfollowed := true, recurses := true, apart := false, narrowed := true }
def GraftRightUptoSaid : Prop := graftRightUptoRow.holds Try.pinned (OpenSpec.upto graftRightSpec)

end Rows
end Go.Proofs.Ytokhaldnakjiaaa
