/- nat.Bits answers how many bits a number has, whatever its length. Conditions: the slice reads as limbs; lengths below 2^40. -/
import Derived.Test.YtgcglhahhphakaaNat
import Derived.Test.YtgcglhahhphakaaLenW
namespace Go.Proofs.Ytgcglhahhphakaa
open Go.RowKit Go.Shelf Num
set_option linter.unusedVariables false

theorem nbits_lim {x : Nat} (hx : x < M) : nbits x ≤ 64 := by
  rw [nbits_le, ← M_two]; exact hx


end Go.Proofs.Ytgcglhahhphakaa
