import Derived.WalkKit
import Derived.OwnWalkIn
import Derived.Deep.QuietTactic
import Derived.BigQuiet
import Derived.Deep.RegionWith
import Derived.Deep.OwnRows
import Derived.Lib.Hide
import Derived.OpenShut
import Derived.Laws.IdiomStrings
import Derived.Test.YtlmkgkfildgkgaaProg
import Derived.Test.YtlmkgkfildgkgaaTxt
import Derived.Test.YtlmkgkfildgkgaaOnlyT
/- What the walks over texts share. No condition but those named. -/
namespace Go.Proofs.Ytlmkgkfildgkgaa
open Go.RowKit
set_option linter.unusedVariables false

theorem rint {k : IntKind} {a b : Int} (h : a = b) : Ending.returned (.int k a) = .returned (.int k b) := by rw [h]
theorem rbool {a b : Bool} (h : a = b) : Ending.returned (.bool a) = .returned (.bool b) := by rw [h]
theorem rstr {a b : ByteArray} (h : a = b) : Ending.returned (.string a) = .returned (.string b) := by rw [h]

end Go.Proofs.Ytlmkgkfildgkgaa
