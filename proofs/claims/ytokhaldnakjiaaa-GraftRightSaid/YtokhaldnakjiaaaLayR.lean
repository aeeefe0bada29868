/- The document's Left (package lodgeref07): Num, Text and Done. Condition: the pointer points to a Left that may be written to. -/
import Derived.Test.YtokhaldnakjiaaaLayM
namespace Go.Proofs.Ytokhaldnakjiaaa
open Go.RowKit
set_option linter.unusedVariables false




end Go.Proofs.Ytokhaldnakjiaaa
