import Derived.Test.YtlmkgkfildgkgaaMem
import Derived.Test.YtlmkgkfildgkgaaTurn
/- Members and views' ids read; lodge/member's and the document's. Condition: the pointer points to a Left in a state, of at most n bytes, fewer than 2^63. -/
namespace Go.Proofs.Ytlmkgkfildgkgaa
open Go.RowKit
set_option linter.unusedVariables false

/-- What is left when a member was read, or that it went wrong. -/
def memSt (st : Option (List UInt8)) : Option (List UInt8) := if okM (numOf st 7) (numOf (numSt st 7) 2147483647) then numSt (numSt st 7) 2147483647 else none
def memOf (st : Option (List UInt8)) : Int × Int := if (memSt st).isSome then (numOf st 7, numOf (numSt st 7) 2147483647) else (0, 0)
def idSt (st : Option (List UInt8)) : Option (List UInt8) := if okV (numOf st 2147483647) (numOf (numSt st 2147483647) 7) (numOf (numSt (numSt st 2147483647) 7) 2147483647) then numSt (numSt (numSt st 2147483647) 7) 2147483647 else none
def idOf (st : Option (List UInt8)) : Int × Int × Int := if (idSt st).isSome then (numOf st 2147483647, numOf (numSt st 2147483647) 7, numOf (numSt (numSt st 2147483647) 7) 2147483647) else (0, 0, 0)


end Go.Proofs.Ytlmkgkfildgkgaa
