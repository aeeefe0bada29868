import Derived.Test.YtjnefacdindamaaGreatDoorNumA
/- The tiny group's prime is there; powers by their bits. Of no program. -/
namespace Go.Proofs.YtjnefacdindamaaGreatDoor
open Num
set_option linter.unusedVariables false
set_option maxRecDepth 100000
theorem P0_ne : P 0 ≠ 0 := by rw [P_0]; decide
end Go.Proofs.YtjnefacdindamaaGreatDoor
