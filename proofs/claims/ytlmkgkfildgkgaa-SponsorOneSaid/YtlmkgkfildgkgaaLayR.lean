import Derived.Test.YtlmkgkfildgkgaaLayM
/- The document's Left (package lodgeref07): Num, Text and Done. Condition: the pointer points to a Left that may be written to. -/
namespace Go.Proofs.Ytlmkgkfildgkgaa
open Go.RowKit
set_option linter.unusedVariables false




end Go.Proofs.Ytlmkgkfildgkgaa
