import Derived.Test.YtlmkgkfildgkgaaLayL
/- lay.Left's Num, Text and Done. Condition: the pointer points to a Left that may be written to. -/
namespace Go.Proofs.Ytlmkgkfildgkgaa
open Go.RowKit
set_option linter.unusedVariables false

/-- A Left that is Bad, whatever is left, but not more than so many bytes. -/
def BadAt (w : World) (b : Nat) (n : Nat) : Prop := ∃ r : List UInt8, r.length ≤ n ∧ LeftAt w b r true
/-- A number, at most m, is next. -/
def hasN (l : List UInt8) (x : Bool) (m : Int) : Prop := x = false ∧ 4 ≤ l.length ∧ nb4 l < 2147483648 ∧ (nb4 l : Int) ≤ m
instance (l : List UInt8) (x : Bool) (m : Int) : Decidable (hasN l x m) := by unfold hasN; infer_instance
/-- A text, of at most m bytes, is next. -/
def hasT (l : List UInt8) (x : Bool) (m : Int) : Prop := hasN l x m ∧ 4 + nb4 l ≤ l.length
instance (l : List UInt8) (x : Bool) (m : Int) : Decidable (hasT l x m) := by unfold hasT; infer_instance




end Go.Proofs.Ytlmkgkfildgkgaa
