import Derived.Test.YtkmlnglmecjmeaaMemA
/- A slice's head: where it begins, how long it is, how much room it has. Of no program. No condition. -/
namespace Go.Proofs.Ytkmlnglmecjmeaa
open Go Go.RowKit
abbrev Hd := Option Addr × Nat × Nat
end Go.Proofs.Ytkmlnglmecjmeaa
