import Derived.Test.YtlmkgkfildgkgaaTreeC
import Derived.Test.YtlmkgkfildgkgaaPhaseA
/- Leaf, Join, Halves of lodge/tree, leaf of the law, Halves of the document. Condition: the slices read as spots, of at most a few. -/
namespace Go.Proofs.Ytlmkgkfildgkgaa
open Go Go.RowKit
set_option linter.unusedVariables false

theorem grow_lists {n m : Nat} {w : World} {xss : List (List Sp)} {cs : List Value} (h : Lists n w xss cs) (hm : n ≤ m) : Lists m w xss cs := keeps_lists _ _ _ _ _ _ h (Below.refl _ _) hm
theorem grow_spots {n m : Nat} {w : World} {xs : List Sp} {cs : List Value} (h : Spots n w xs cs) (hm : n ≤ m) : Spots m w xs cs := keeps_spots _ _ _ _ _ _ h (Below.refl _ _) hm


end Go.Proofs.Ytlmkgkfildgkgaa
